import PyProof.Rows.All
import Wide.All
import OpenK.AllK
import Wide.FinOn
import HandS.ForMost
import HandS.ForExc
import PyProof.ListRange
import PyProof.RowDictHeap
import KE.KTupSum
import OpenK.KOps
import HandS.Dict
import KE.GoesEnumKw
import HandS.MakeKw
import HandS.Iter
import HandS.SortInts
import HandS.Text
import HandS.StrMore
import HandS.TupAny
import HandS.IsInst
import HandS.OwnEq
import KE.KExcIs
import HandS.ExcIs
import HandS.ExcField
import HandS.WordsExc
import HandS.Zip
import HandS.FStr
import HandS.Comp
import HandS.Star
import HandS.TupMul
import HandS.Style
import PySem.Challenge.RW_rateplan_k04_talks_written_and_read
set_option Elab.async false
set_option linter.all false
set_option maxRecDepth 100000
set_option maxHeartbeats 4000000
namespace Rp
open PySem PySem.Spec PyProof.Rows L2
abbrev topS (i : Nat) : Stmt := PySem.Challenge.pw_rateplan_k04_talks_written_and_read.main.body.getD i (.Pass ⟨0, 0, 0, 0⟩)
abbrev sTake : Stmt := topS 19
theorem scTake : FnScope ["_law_well_here", "_law_top", "_law_digit", "_law_number"] ["_law_well_here", "_law_top"] (defScope sTake) :=
  ⟨rfl, rfl, rfl, by decide +kernel, rfl, by decide +kernel, by decide +kernel⟩

/-- the well: three whole numbers in a list -/
def Well (H : Hp) (w : Addr) : Prop := ∃ c0 c1 c2 : Int, H w = some (.lst [.int c0, .int c1, .int c2])
/-- all but the object at w stands -/
def But (w : Addr) (H H' : Hp) : Prop := ∀ b o, b ≠ w → H b = some o → H' b = some o
theorem But.refl (w : Addr) (H : Hp) : But w H H := fun _ _ _ h => h
theorem But.trans {w : Addr} {H H1 H2 : Hp} (a : But w H H1) (b : But w H1 H2) : But w H H2 := fun c o n h => b c o n (a c o n h)
theorem But.upd {w : Addr} {H : Hp} {o : HO} : But w H (upd H w o) := fun b u n h => by rw [upd_ne n]; exact h

def spTake : Sp := fun vs H Q _ => ∃ (w : Addr) (c0 c1 c2 top : Int), vs = [.ref w, .int top] ∧ H w = some (.lst [.int c0, .int c1, .int c2]) ∧ 1 ≤ top ∧ top < 1000000 ∧
  ∀ d c0' c2' : Int, 0 ≤ d → d < top → Q (.int d) (upd H w (.lst [.int c0', .int c1, .int c2']))

section
variable {P : Program} {w : World} {K : PySem.W.Frag} {mg : Str → Option Value} {base : Heap}
theorem ok_take {f : Addr} {fd : FuncData} (F : Fun K "_law_take" "_law_take" sTake f fd) : FnOk P w K mg base CX0 1 f fd ["_law_well_here", "_law_top"] spTake := by
  refine F.ok scTake (fun vs H Q E h => ?_) (fun cdv A outer s H vs Q E hr h => ?_)
  · obtain ⟨_, _, _, _, _, rfl, _⟩ := h
    rfl
  · have nd := scTake.nd
    refine ⟨_, pss_cons (ps_if (pt_cmpR op_gt (pe_ix ix_list (pv 0) pe_int (fun _ _ => rfl)) pe_int (nomark _))
        (pss_cons (ps_set (i := 2) nd rfl (Or.inl rfl) (pe_op op_mod (pe_ix ix_list (pv 0) pe_int (fun _ _ => rfl)) (pv 1)))
          (pss_cons (ps_asg (pe_op op_fdiv (pe_ix ix_list (pv 0) pe_int (fun _ _ => rfl)) (pv 1)) (pg_sub (pv 0) pe_int set_list))
            (pss_one (ps_ret (pv 2))))) pss_nil)
      (pss_cons (ps_asg (pe_op op_add (pe_ix ix_list (pv 0) pe_int (fun _ _ => rfl)) pe_int) (pg_sub (pv 0) pe_int set_list))
      (pss_cons (ps_set (i := 3) nd rfl (Or.inl rfl) (pe_op op_mod (pe_op op_mul (pe_op op_add (pe_op op_add (pe_ix ix_list (pv 0) pe_int (fun _ _ => rfl)) (pe_op op_mul pe_int (pe_ix ix_list (pv 0) pe_int (fun _ _ => rfl)))) pe_int) pe_int) pe_int))
      (pss_cons (ps_set (i := 3) nd rfl (Or.inl rfl) (pe_op op_mod (pe_op op_add (pe_op op_mul (pv 3) (pv 3)) (pe_op op_mul pe_int (pe_ix ix_list (pv 0) pe_int (fun _ _ => rfl)))) pe_int))
      (pss_cons (ps_set (i := 3) nd rfl (Or.inl rfl) (pe_op op_add (pe_op op_mul (pe_op op_mod (pe_op op_mul (pv 3) (pe_op op_add (pv 3) pe_int)) pe_int) pe_int) (pv 3)))
      (pss_one (ps_ret (pe_op op_mod (pe_op op_fdiv (pe_op op_mod (pe_op op_mul (pv 3) pe_int) pe_int) pe_int) (pv 1)))))))), ?_⟩
    obtain ⟨a, c0, c1, c2, top, rfl, ha, h1, h2, k⟩ := h
    refine ⟨_, rfl, a, _, 0, _, rfl, rfl, SqL.of ha, rfl, _, _, rfl, rfl, _, rfl, ?_⟩
    refine ite2 (fun _ => ?_) (fun _ => ?_)
    · refine ⟨_, rfl, a, _, 0, _, rfl, rfl, SqL.of ha, rfl, _, rfl, _, _, rfl, rfl, by show (0 : Int) < top; omega, ?_⟩
      refine ⟨_, rfl, a, _, 0, _, rfl, rfl, SqL.of ha, rfl, _, rfl, _, _, rfl, rfl, ⟨by show (0 : Int) < top; omega, by show top < 1073741824; omega⟩, ?_⟩
      refine ⟨_, rfl, a, _, 0, 0, rfl, rfl, ha, rfl, ?_⟩
      refine ⟨_, rfl, ?_⟩
      exact k _ _ c2 (Int.emod_nonneg _ (by omega)) (Int.emod_lt_of_pos _ (by omega))
    · refine ⟨_, rfl, a, _, 2, _, rfl, rfl, SqL.of ha, rfl, _, _, rfl, rfl, ?_⟩
      refine ⟨_, rfl, a, _, 2, 2, rfl, rfl, ha, rfl, ?_⟩
      have hb : upd H a (.lst [.int c0, .int c1, .int (c2 + 1)]) a = some (.lst [.int c0, .int c1, .int (c2 + 1)]) := upd_same
      refine ⟨_, rfl, a, _, 1, _, rfl, rfl, SqL.of hb, rfl, ?_⟩
      refine ⟨_, rfl, a, _, 2, _, rfl, rfl, SqL.of hb, rfl, _, _, rfl, rfl, .inl ⟨by decide, by decide⟩, ?_⟩
      refine ⟨_, _, rfl, rfl, _, _, rfl, rfl, _, _, rfl, rfl, .inr ⟨by decide, by decide⟩, _, _, rfl, rfl, (by show (0 : Int) < 2147483647; decide), ?_⟩
      have n0 := Int.emod_nonneg ((c1 + 65537 * (c2 + 1) + 31) * 48271) (show (2147483647 : Int) ≠ 0 by decide)
      have n1 := Int.emod_lt_of_pos ((c1 + 65537 * (c2 + 1) + 31) * 48271) (show (0 : Int) < 2147483647 by decide)
      refine ⟨_, rfl, _, rfl, _, _, rfl, rfl, .inl ⟨Int.lt_of_lt_of_le (by decide) n0, Int.lt_trans n1 (by decide)⟩, _, rfl, a, _, 2, _, rfl, rfl, SqL.of hb, rfl, _, _, rfl, rfl, .inl ⟨by decide, by decide⟩, _, _, rfl, rfl, _, _, rfl, rfl, (by show (0 : Int) < 2147483587; decide), ?_⟩
      have m0 := fun z : Int => Int.emod_nonneg z (show (2147483587 : Int) ≠ 0 by decide)
      have m1 := fun z : Int => Int.emod_lt_of_pos z (show (0 : Int) < 2147483587 by decide)
      refine ⟨_, rfl, _, rfl, _, _, rfl, rfl, _, _, rfl, rfl, .inl ⟨Int.lt_of_lt_of_le (by decide) (m0 _), Int.lt_trans (m1 _) (by decide)⟩, _, _, rfl, rfl, (by show (0 : Int) < 2147483563; decide), _, _, rfl, rfl, .inr ⟨by decide, by decide⟩, _, rfl, _, _, rfl, rfl, ?_⟩
      refine ⟨_, rfl, _, _, rfl, rfl, .inr ⟨by decide, by decide⟩, _, _, rfl, rfl, (by show (0 : Int) < 2305843009213693951; decide), _, _, rfl, rfl, ⟨by decide, by decide⟩, _, rfl, _, _, rfl, rfl, (by show (0 : Int) < top; omega), ?_⟩
      exact k _ c0 (c2 + 1) (Int.emod_nonneg _ (by omega)) (Int.emod_lt_of_pos _ (by omega))
end
end Rp

namespace Rp
open PySem PySem.Spec PyProof.Rows L2
abbrev sWell : Stmt := topS 18
abbrev sTalk : Stmt := topS 20
theorem scWell : FnScope ["_law_script", "_law_k", "_law_cell"] ["_law_script", "_law_k"] (defScope sWell) :=
  ⟨rfl, rfl, rfl, by decide +kernel, rfl, by decide +kernel, by decide +kernel⟩
theorem scTalk : FnScope ["_law_well_here", "_law_great", "_law_way", "_law_many", "_law_rates", "_law_lengths", "_law_sizes", "_law_k", "_law_row", "_law_j"] ["_law_well_here"] (defScope sTalk) :=
  ⟨rfl, rfl, rfl, by decide +kernel, rfl, by decide +kernel, by decide +kernel⟩

def spWell (K : PySem.W.Frag) : Sp := fun vs H Q _ => ∃ (a : Addr) (ns : List Int) (k : Nat), vs = [.ref a, .int k] ∧ SqL K H a (ns.map V.int) ∧
  ∀ p (c0 c1 c2 : Int), H p = none → Q (.ref p) (upd H p (.lst [.int c0, .int c1, .int c2]))
/-- the built-in names are as they were -/
structure Bi (mg : Str → Option Value) : Prop where
  int : mg "int" = none
  len : mg "len" = none
  range : mg "range" = none
  tuple : mg "tuple" = none

theorem cut_mul {b : Bool} {c : Int} : CMul c (if b = true then 1 else 0) := by
  cases b
  · exact .inr ⟨by decide, by decide⟩
  · exact .inr ⟨by decide, by decide⟩
section
variable {P : Program} {w : World} {K : PySem.W.Frag} {mg : Str → Option Value} {base : Heap}
theorem ok_well {f : Addr} {fd : FuncData} (F : Fun K "_law_well" "_law_well" sWell f fd) (T : Bi mg) : FnOk P w K mg base CX0 1 f fd ["_law_script", "_law_k"] (spWell K) := by
  refine F.ok scWell (fun vs H Q E h => ?_) (fun cdv A outer s H vs Q E hr h => ?_)
  · obtain ⟨_, _, _, rfl, _⟩ := h
    rfl
  · have nd := scWell.nd
    refine ⟨_, pss_cons (ps_set (i := 2) nd rfl (Or.inl rfl) pe_int)
      (pss_cons (ps_if (pt_cmpR op_lt (pv 1) (pe_callB call_len_seq (by rfl) T.len PySem.boot_len (pa_cons (pv 0) pa_nil)) (nomark _))
        (pss_one (ps_set (i := 2) nd rfl (Or.inl rfl) (pe_ix ix_list (pv 0) (pv 1) (fun _ _ => rfl)))) pss_nil)
      (pss_one (ps_ret (pe_lst (pa_cons (pe_op op_mul (pv 2) (pe_callTy call_int1 (by rfl) T.int boot_int (pa_cons (pe_cmpR op_ge (pv 2) (pe_op op_pow pe_int pe_int) (nomark _)) pa_nil)))
        (pa_cons (pe_op op_add (pe_op op_mod (pv 2) pe_int) (pe_op op_mul pe_int (pv 1))) (pa_cons pe_int pa_nil))))))), ?_⟩
    obtain ⟨a, ns, k, rfl, ha, q⟩ := h
    have hk : decide ((k : Int) < ((ns.map V.int).length : Int)) = true → k < (ns.map V.int).length := fun c => by have := of_decide_eq_true c; omega
    refine ⟨_, rfl, _, rfl, a, _, rfl, .inl ha, _, _, rfl, rfl, _, rfl, ?_⟩
    refine ite2 (fun c => ⟨_, rfl, _, rfl, a, _, k, _, rfl, rfl, ha, atI_nat (List.getElem?_eq_getElem (hk c)), ?_⟩) (fun _ => ?_)
    · rw [List.getElem_map]
      refine ⟨_, rfl, _, rfl, _, _, rfl, rfl, ⟨by decide, by decide, by decide⟩, _, _, rfl, rfl, .inr ⟨_, rfl, _, _, rfl, rfl, cut_mul, _, rfl, _, _, rfl, rfl, (by show (0 : Int) < 2147483629; decide), _, rfl, _, _, rfl, rfl, .inl ⟨by decide, by decide⟩, _, _, rfl, rfl, by show 3 ≤ sizeLine; decide, fun p hp => ?_⟩⟩
      exact q p _ _ _ hp
    · refine ⟨_, rfl, _, rfl, _, _, rfl, rfl, ⟨by decide, by decide, by decide⟩, _, _, rfl, rfl, .inr ⟨_, rfl, _, _, rfl, rfl, cut_mul, _, rfl, _, _, rfl, rfl, (by show (0 : Int) < 2147483629; decide), _, rfl, _, _, rfl, rfl, .inl ⟨by decide, by decide⟩, _, _, rfl, rfl, by show 3 ≤ sizeLine; decide, fun p hp => ?_⟩⟩
      exact q p _ _ _ hp
end
end Rp

namespace Rp
open PySem PySem.Spec PyProof.Rows L2
theorem four_at (a b c d way : Int) (h0 : 0 ≤ way) (h4 : way < 4) : ∃ v, atI [V.int a, V.int b, V.int c, V.int d] way = some (.int v) ∧ (v = a ∨ v = b ∨ v = c ∨ v = d) := by
  have h : way = 0 ∨ way = 1 ∨ way = 2 ∨ way = 3 := by omega
  rcases h with rfl | rfl | rfl | rfl
  · exact ⟨a, rfl, .inl rfl⟩
  · exact ⟨b, rfl, .inr (.inl rfl)⟩
  · exact ⟨c, rfl, .inr (.inr (.inl rfl))⟩
  · exact ⟨d, rfl, .inr (.inr (.inr rfl))⟩
theorem two_at (a b i : Int) (h0 : 0 ≤ i) (h2 : i < 2) : ∃ v, atI [V.int a, V.int b] i = some (.int v) ∧ (v = a ∨ v = b) := by
  have h : i = 0 ∨ i = 1 := by omega
  rcases h with rfl | rfl
  · exact ⟨a, rfl, .inl rfl⟩
  · exact ⟨b, rfl, .inr rfl⟩
/-- tuples of numbers at the addresses qs -/
def RowsAt (H : Hp) (qs : List Addr) (bs : List (List Int)) : Prop := Paired (fun (q : Addr) (row : List Int) => H q = some (.tup (row.map V.int))) qs bs
theorem RowsAt.imp {H H' : Hp} (k : ∀ q xs, H q = some (.tup xs) → H' q = some (.tup xs)) : ∀ {qs : List Addr} {bs : List (List Int)}, RowsAt H qs bs → RowsAt H' qs bs
  | _, _, .nil => .nil
  | _, _, .cons h t => .cons (k _ _ h) (RowsAt.imp k t)
theorem RowsAt.snoc {H : Hp} {q : Addr} {row : List Int} (h : H q = some (.tup (row.map V.int))) : ∀ {qs : List Addr} {bs : List (List Int)}, RowsAt H qs bs → RowsAt H (qs ++ [q]) (bs ++ [row])
  | _, _, .nil => .cons h .nil
  | _, _, .cons a t => .cons a (RowsAt.snoc h t)
theorem RowsAt.length {H : Hp} {qs : List Addr} {bs : List (List Int)} (h : RowsAt H qs bs) : qs.length = bs.length := Paired.length h
def RowOk (r : Nat) (row : List Int) : Prop := row.length = r ∧ ∀ b ∈ row, 1 ≤ b ∧ b ≤ 1000
/-- a talk's numbers as they are drawn -/
structure Fine (ls : List Int) (bs : List (List Int)) : Prop where
  same : ls.length = bs.length
  pos : 1 ≤ ls.length
  most : ls.length ≤ 12
  ls : ∀ l ∈ ls, 1 ≤ l ∧ l ≤ 20
  bs : ∃ r, 1 ≤ r ∧ r ≤ 4 ∧ ∀ row ∈ bs, RowOk r row
/-- (lengths, sizes) at p -/
def TalkRow (H : Hp) (p : Addr) (ls : List Int) (bs : List (List Int)) : Prop := ∃ a b qs, H p = some (.tup [.ref a, .ref b]) ∧ H a = some (.tup (ls.map V.int)) ∧ H b = some (.tup (qs.map V.ref)) ∧ RowsAt H qs bs
theorem TalkRow.imp {H H' : Hp} (k : ∀ q xs, H q = some (.tup xs) → H' q = some (.tup xs)) {p : Addr} {ls : List Int} {bs : List (List Int)} (h : TalkRow H p ls bs) : TalkRow H' p ls bs :=
  let ⟨a, b, qs, h1, h2, h3, h4⟩ := h
  ⟨a, b, qs, k _ _ h1, k _ _ h2, k _ _ h3, h4.imp k⟩
theorem But.tup {w : Addr} {H H' : Hp} (b : But w H H') (hw : Well H w) (q : Addr) (xs : List V) (h : H q = some (.tup xs)) : H' q = some (.tup xs) := by
  obtain ⟨_, _, _, hw⟩ := hw
  exact b q _ (ne_of h hw (by intro z; cases z)) h
def spTalk : Sp := fun vs H Q _ => ∃ w, vs = [.ref w] ∧ Well H w ∧ ∀ H' p ls bs, But w H H' → Well H' w → TalkRow H' p ls bs → Fine ls bs → Q (.ref p) H'

structure OS (w L S : Addr) (H0 : Hp) (ls : List Int) (qs : List Addr) (bs : List (List Int)) (H : Hp) : Prop where
  but : But w H0 H
  nl : H0 L = none
  ns : H0 S = none
  wl : w ≠ L
  ws : w ≠ S
  lS : L ≠ S
  well : Well H w
  hL : H L = some (.lst (ls.map V.int))
  hS : H S = some (.lst (qs.map V.ref))
  rows : RowsAt H qs bs
section
variable {w L S R : Addr} {H0 H : Hp} {ls row : List Int} {qs : List Addr} {bs : List (List Int)} {p : Addr} {o : HO}
theorem OS.wellNe (x : OS w L S H0 ls qs bs H) (hp : H p = none) : w ≠ p := by
  obtain ⟨_, _, _, h⟩ := x.well
  exact ne_of_none h hp
theorem OS.new (x : OS w L S H0 ls qs bs H) (hp : H p = none) : OS w L S H0 ls qs bs (upd H p o) where
  but := fun b u n h => by
    have := x.but b u n h
    rw [upd_ne (ne_of_none this hp)]; exact this
  nl := x.nl
  ns := x.ns
  wl := x.wl
  ws := x.ws
  lS := x.lS
  well := by
    obtain ⟨a, b, c, h⟩ := x.well
    exact ⟨a, b, c, by rw [upd_ne (ne_of_none h hp)]; exact h⟩
  hL := by rw [upd_ne (ne_of_none x.hL hp)]; exact x.hL
  hS := by rw [upd_ne (ne_of_none x.hS hp)]; exact x.hS
  rows := x.rows.imp fun q xs h => by rw [upd_ne (ne_of_none h hp)]; exact h
theorem OS.upw (x : OS w L S H0 ls qs bs H) {c0 c1 c2 : Int} : OS w L S H0 ls qs bs (upd H w (.lst [.int c0, .int c1, .int c2])) where
  but := x.but.trans .upd
  nl := x.nl
  ns := x.ns
  wl := x.wl
  ws := x.ws
  lS := x.lS
  well := ⟨c0, c1, c2, upd_same⟩
  hL := by rw [upd_ne (Ne.symm x.wl)]; exact x.hL
  hS := by rw [upd_ne (Ne.symm x.ws)]; exact x.hS
  rows := by
    obtain ⟨_, _, _, hw⟩ := x.well
    exact x.rows.imp fun q xs h => by rw [upd_ne (ne_of h hw (by intro z; cases z))]; exact h
theorem OS.pushL (x : OS w L S H0 ls qs bs H) {v : Int} : OS w L S H0 (ls ++ [v]) qs bs (upd H L (.lst (ls.map V.int ++ [.int v]))) where
  but := fun b u n h => by
    rw [upd_ne (ne_of_none h x.nl)]; exact x.but b u n h
  nl := x.nl
  ns := x.ns
  wl := x.wl
  ws := x.ws
  lS := x.lS
  well := by
    obtain ⟨a, b, c, h⟩ := x.well
    exact ⟨a, b, c, by rw [upd_ne x.wl]; exact h⟩
  hL := by rw [upd_same, List.map_append]; rfl
  hS := by rw [upd_ne (Ne.symm x.lS)]; exact x.hS
  rows := x.rows.imp fun q xs h => by rw [upd_ne (ne_of h x.hL (by intro z; cases z))]; exact h
theorem OS.pushS (x : OS w L S H0 ls qs bs H) (hp : H p = some (.tup (row.map V.int))) : OS w L S H0 ls (qs ++ [p]) (bs ++ [row]) (upd H S (.lst (qs.map V.ref ++ [.ref p]))) where
  but := fun b u n h => by
    rw [upd_ne (ne_of_none h x.ns)]; exact x.but b u n h
  nl := x.nl
  ns := x.ns
  wl := x.wl
  ws := x.ws
  lS := x.lS
  well := by
    obtain ⟨a, b, c, h⟩ := x.well
    exact ⟨a, b, c, by rw [upd_ne x.ws]; exact h⟩
  hL := by rw [upd_ne x.lS]; exact x.hL
  hS := by rw [upd_same, List.map_append]; rfl
  rows := by
    have k : ∀ q xs, H q = some (.tup xs) → upd H S (.lst (qs.map V.ref ++ [.ref p])) q = some (.tup xs) := fun q xs h => by rw [upd_ne (ne_of h x.hS (by intro z; cases z))]; exact h
    exact (x.rows.imp k).snoc (k _ _ hp)
/-- .. and a row that grows at R -/
structure OR (w L S R : Addr) (H0 : Hp) (ls : List Int) (qs : List Addr) (bs : List (List Int)) (row : List Int) (H : Hp) : Prop where
  os : OS w L S H0 ls qs bs H
  nr : H0 R = none
  wr : w ≠ R
  lr : L ≠ R
  sr : S ≠ R
  hR : H R = some (.lst (row.map V.int))
theorem OR.new (x : OR w L S R H0 ls qs bs row H) (hp : H p = none) : OR w L S R H0 ls qs bs row (upd H p o) where
  os := x.os.new hp
  nr := x.nr
  wr := x.wr
  lr := x.lr
  sr := x.sr
  hR := by rw [upd_ne (ne_of_none x.hR hp)]; exact x.hR
theorem OR.upw (x : OR w L S R H0 ls qs bs row H) {c0 c1 c2 : Int} : OR w L S R H0 ls qs bs row (upd H w (.lst [.int c0, .int c1, .int c2])) where
  os := x.os.upw
  nr := x.nr
  wr := x.wr
  lr := x.lr
  sr := x.sr
  hR := by rw [upd_ne (Ne.symm x.wr)]; exact x.hR
theorem OR.push (x : OR w L S R H0 ls qs bs row H) {v : Int} : OR w L S R H0 ls qs bs (row ++ [v]) (upd H R (.lst (row.map V.int ++ [.int v]))) where
  os := {
    but := fun b u n h => by rw [upd_ne (ne_of_none h x.nr)]; exact x.os.but b u n h
    nl := x.os.nl
    ns := x.os.ns
    wl := x.os.wl
    ws := x.os.ws
    lS := x.os.lS
    well := by
      obtain ⟨a, b, c, h⟩ := x.os.well
      exact ⟨a, b, c, by rw [upd_ne x.wr]; exact h⟩
    hL := by rw [upd_ne x.lr]; exact x.os.hL
    hS := by rw [upd_ne x.sr]; exact x.os.hS
    rows := x.os.rows.imp fun q xs h => by rw [upd_ne (ne_of h x.hR (by intro z; cases z))]; exact h }
  nr := x.nr
  wr := x.wr
  lr := x.lr
  sr := x.sr
  hR := by rw [upd_same, List.map_append]; rfl
end
/-- a drawn number, and what the draw leaves -/
theorem take_by {w : Addr} {H : Hp} {top : Int} {Q : VK} {E : XK} (hw : Well H w) (h1 : 1 ≤ top) (h2 : top < 1000000) (k : ∀ d c0 c1 c2 : Int, 0 ≤ d → d < top → Q (.int d) (upd H w (.lst [.int c0, .int c1, .int c2]))) : spTake [.ref w, .int top] H Q E := by
  obtain ⟨c0, c1, c2, hw⟩ := hw
  exact ⟨w, c0, c1, c2, top, rfl, hw, h1, h2, fun d c0' c2' a b => k d c0' c1 c2' a b⟩
theorem Well.upw {w : Addr} {H : Hp} {c0 c1 c2 : Int} : Well (upd H w (.lst [.int c0, .int c1, .int c2])) w := ⟨c0, c1, c2, upd_same⟩
theorem Well.new {w p : Addr} {H : Hp} {o : HO} (h : Well H w) (hp : H p = none) : Well (upd H p o) w := by
  obtain ⟨a, b, c, h⟩ := h
  exact ⟨a, b, c, by rw [upd_ne (ne_of_none h hp)]; exact h⟩
theorem But.new {w p : Addr} {H0 H : Hp} {o : HO} (h : But w H0 H) (hp : H p = none) : But w H0 (L2.upd H p o) := fun b u n q => by
  have := h b u n q
  rw [upd_ne (ne_of_none this hp)]; exact this
theorem But.free {w p : Addr} {H0 H : Hp} (h : But w H0 H) (hw : Well H w) (hp : H p = none) : H0 p = none := by
  cases q : H0 p with
  | none => rfl
  | some o =>
    obtain ⟨_, _, _, hw⟩ := hw
    have := h p o (Ne.symm (ne_of_none hw hp)) q
    rw [hp] at this; cases this
end Rp

namespace Rp
open PySem PySem.Spec PyProof.Rows L2
section
variable {P : Program} {w : World} {K : PySem.W.Frag} {mg : Str → Option Value} {base : Heap}
theorem ok_talk {f fT : Addr} {fd fdT : FuncData} (F : Fun K "_law_talk" "_law_talk" sTalk f fd) (T : Bi mg) (FT : Fun K "_law_take" "_law_take" sTake fT fdT) (mT : mg "_law_take" = some (.ref fT)) (bT : Binds K fdT ["_law_well_here", "_law_top"] []) :
    FnOk P w K mg base CX0 2 f fd ["_law_well_here"] spTalk := by
  have G : FnOk P w K mg base CX0 1 fT fdT ["_law_well_here", "_law_top"] spTake := ok_take FT
  refine F.ok scTalk (fun vs H Q E h => ?_) (fun cdv A outer s H0 vs Q E hr h => ?_)
  · obtain ⟨_, rfl, _⟩ := h
    rfl
  · have nd := scTalk.nd
    refine ⟨_, pss_cons (ps_set (i := 1) nd rfl (Or.inl rfl) (pe_callTy call_int1 (by rfl) T.int boot_int (pa_cons (pe_cmpR op_eq (pe_call G hr (by rfl) mT FT.kp bT .nil pass0 (pa_cons (pv 0) (pa_cons (pe_int) pa_nil))) (pe_int) (nomark _)) pa_nil)))
    (pss_cons (ps_set (i := 2) nd rfl (Or.inl rfl) (pe_call G hr (by rfl) mT FT.kp bT .nil pass0 (pa_cons (pv 0) (pa_cons (pe_int) pa_nil))))
    (pss_cons (ps_set (i := 3) nd rfl (Or.inl rfl) (pe_ix ix_list (pe_lst (pa_cons (pe_op op_add (pe_int) (pe_call G hr (by rfl) mT FT.kp bT .nil pass0 (pa_cons (pv 0) (pa_cons (pe_int) pa_nil)))) (pa_cons (pe_int) pa_nil))) (pv 1) (fun _ _ => rfl)))
    (pss_cons (ps_set (i := 4) nd rfl (Or.inl rfl) (pe_ix ix_list (pe_lst (pa_cons (pe_op op_add (pe_int) (pe_call G hr (by rfl) mT FT.kp bT .nil pass0 (pa_cons (pv 0) (pa_cons (pe_int) pa_nil)))) (pa_cons (pe_int) pa_nil))) (pv 1) (fun _ _ => rfl)))
    (pss_cons (ps_set (i := 5) nd rfl (Or.inl rfl) (pe_lst (pa_nil)))
    (pss_cons (ps_set (i := 6) nd rfl (Or.inl rfl) (pe_lst (pa_nil)))
    (pss_cons (ps_for PassesOwn.never rfl (pi_range1 (by rfl) T.range (pa_cons (pv 3) pa_nil)) (pg_name (i := 7) nd rfl (Or.inl rfl)) (pss_cons (ps_expr (pe_bm PySem.F.plainAttrs_list PySem.F.slot_list_append PySem.F.type_list_append mt_append (pv 5) (pa_cons (pe_ix ix_list (pe_lst (pa_cons (pe_op op_add (pe_int) (pe_call G hr (by rfl) mT FT.kp bT .nil pass0 (pa_cons (pv 0) (pa_cons (pe_int) pa_nil)))) (pa_cons (pe_op op_add (pe_int) (pe_call G hr (by rfl) mT FT.kp bT .nil pass0 (pa_cons (pv 0) (pa_cons (pe_int) pa_nil)))) (pa_cons (pe_op op_sub (pe_int) (pe_call G hr (by rfl) mT FT.kp bT .nil pass0 (pa_cons (pv 0) (pa_cons (pe_int) pa_nil)))) (pa_cons (pe_int) pa_nil))))) (pv 2) (fun _ _ => rfl)) pa_nil)))
      (pss_cons (ps_set (i := 8) nd rfl (Or.inl rfl) (pe_lst (pa_nil)))
      (pss_cons (ps_for PassesOwn.never rfl (pi_range1 (by rfl) T.range (pa_cons (pv 4) pa_nil)) (pg_name (i := 9) nd rfl (Or.inl rfl)) (pss_one (ps_expr (pe_bm PySem.F.plainAttrs_list PySem.F.slot_list_append PySem.F.type_list_append mt_append (pv 8) (pa_cons (pe_ix ix_list (pe_lst (pa_cons (pe_op op_add (pe_int) (pe_call G hr (by rfl) mT FT.kp bT .nil pass0 (pa_cons (pv 0) (pa_cons (pe_int) pa_nil)))) (pa_cons (pe_op op_add (pe_int) (pe_call G hr (by rfl) mT FT.kp bT .nil pass0 (pa_cons (pv 0) (pa_cons (pe_int) pa_nil)))) (pa_cons (pe_op op_sub (pe_int) (pe_call G hr (by rfl) mT FT.kp bT .nil pass0 (pa_cons (pv 0) (pa_cons (pe_int) pa_nil)))) (pa_cons (pe_op op_add (pe_op op_mul (pe_int) (pv 9)) (pe_int)) pa_nil))))) (pv 2) (fun _ _ => rfl)) pa_nil)))))
      (pss_one (ps_expr (pe_bm PySem.F.plainAttrs_list PySem.F.slot_list_append PySem.F.type_list_append mt_append (pv 6) (pa_cons (pe_callTy call_tuple_of (by rfl) T.tuple boot_tuple (pa_cons (pv 8) pa_nil)) pa_nil))))))))
    (pss_one (ps_ret (pe_tup (pa_cons (pe_callTy call_tuple_of (by rfl) T.tuple boot_tuple (pa_cons (pv 5) pa_nil)) (pa_cons (pe_callTy call_tuple_of (by rfl) T.tuple boot_tuple (pa_cons (pv 6) pa_nil)) pa_nil))))))))))), ?_⟩
    obtain ⟨w, rfl, ⟨hw0, x1, hw2, hw⟩, k⟩ := h
    -- great, way
    refine ⟨_, rfl, w, hw0, x1, hw2, _, rfl, hw, (by decide), (by decide), fun d0 x0 x2 _ _ => ⟨rfl, .inr ⟨_, rfl, ?_⟩⟩⟩
    obtain ⟨g, hg, g0, g2⟩ : ∃ g : Int, (if decide (V.int d0 = V.int 5) = true then (1 : Int) else 0) = g ∧ 0 ≤ g ∧ g < 2 := by
      split
      · exact ⟨1, rfl, by decide, by decide⟩
      · exact ⟨0, rfl, by decide, by decide⟩
    rw [hg]
    have b1 : But w H0 (upd H0 w (.lst [.int x0, .int x1, .int x2])) := .upd
    have w1 : Well (upd H0 w (.lst [.int x0, .int x1, .int x2])) w := .upw
    generalize upd H0 w (.lst [.int x0, .int x1, .int x2]) = H1 at b1 w1 ⊢
    obtain ⟨z0, y1, z2, hz⟩ := w1
    refine ⟨_, rfl, w, z0, y1, z2, _, rfl, hz, (by decide), (by decide), fun way y0 y2 way0 way4 => ?_⟩
    have b2 : But w H0 (upd H1 w (.lst [.int y0, .int y1, .int y2])) := b1.trans .upd
    have w2 : Well (upd H1 w (.lst [.int y0, .int y1, .int y2])) w := .upw
    generalize upd H1 w (.lst [.int y0, .int y1, .int y2]) = H2 at b2 w2 ⊢
    -- many
    obtain ⟨z0, y1, z2, hz⟩ := w2
    refine ⟨_, rfl, w, z0, y1, z2, _, rfl, hz, (by decide), (by decide), fun m0 y0 y2 m00 m05 => ⟨_, _, rfl, rfl, by show 2 ≤ sizeLine; decide, fun p hp => ?_⟩⟩
    have b3 := (b2.trans (.upd (w := w) (H := H2) (o := .lst [.int y0, .int y1, .int y2]))).new (o := .lst [.int (1 + m0), .int 12]) hp
    have w3 := (Well.upw (w := w) (H := H2) (c0 := y0) (c1 := y1) (c2 := y2)).new (o := .lst [.int (1 + m0), .int 12]) hp
    have hp3 : upd (upd H2 w (.lst [.int y0, .int y1, .int y2])) p (.lst [.int (1 + m0), .int 12]) p = some (.lst [.int (1 + m0), .int 12]) := upd_same
    obtain ⟨many, hm, hmv⟩ := two_at (1 + m0) 12 g g0 g2
    refine ⟨_, rfl, p, _, g, _, rfl, rfl, SqL.of hp3, hm, ?_⟩
    clear hp3 hp
    generalize upd (upd H2 w (.lst [.int y0, .int y1, .int y2])) p (.lst [.int (1 + m0), .int 12]) = H3 at b3 w3 ⊢
    -- rates
    obtain ⟨z0, y1, z2, hz⟩ := w3
    refine ⟨_, rfl, w, z0, y1, z2, _, rfl, hz, (by decide), (by decide), fun r0 y0 y2 r00 r04 => ⟨_, _, rfl, rfl, by show 2 ≤ sizeLine; decide, fun p hp => ?_⟩⟩
    have b4 := (b3.trans (.upd (w := w) (H := H3) (o := .lst [.int y0, .int y1, .int y2]))).new (o := .lst [.int (1 + r0), .int 4]) hp
    have w4 := (Well.upw (w := w) (H := H3) (c0 := y0) (c1 := y1) (c2 := y2)).new (o := .lst [.int (1 + r0), .int 4]) hp
    have hp4 : upd (upd H3 w (.lst [.int y0, .int y1, .int y2])) p (.lst [.int (1 + r0), .int 4]) p = some (.lst [.int (1 + r0), .int 4]) := upd_same
    obtain ⟨rates, hr', hrv⟩ := two_at (1 + r0) 4 g g0 g2
    refine ⟨_, rfl, p, _, g, _, rfl, rfl, SqL.of hp4, hr', ?_⟩
    clear hp4 hp
    generalize upd (upd H3 w (.lst [.int y0, .int y1, .int y2])) p (.lst [.int (1 + r0), .int 4]) = H4 at b4 w4 ⊢
    -- lengths, sizes
    refine ⟨Nat.zero_le _, fun L hL => ⟨Nat.zero_le _, fun S hS => ?_⟩⟩
    have hL' : upd H4 L (.lst []) L = some (.lst []) := upd_same
    have lS : L ≠ S := ne_of_none hL' hS
    have os0 : OS w L S H0 [] [] [] (upd (upd H4 L (.lst [])) S (.lst [])) := {
      but := (b4.new hL).new hS
      nl := b4.free w4 hL
      ns := (b4.new hL).free (w4.new hL) hS
      wl := by obtain ⟨_, _, _, h⟩ := w4; exact ne_of_none h hL
      ws := by obtain ⟨_, _, _, h⟩ := w4.new (o := .lst []) hL; exact ne_of_none h hS
      lS := lS
      well := (w4.new hL).new hS
      hL := by rw [upd_ne lS, upd_same]; rfl
      hS := upd_same
      rows := .nil }
    generalize upd (upd H4 L (.lst [])) S (.lst []) = H5 at os0 ⊢
    obtain ⟨m, rfl, hm1, hm2⟩ : ∃ m : Nat, many = (m : Int) ∧ 1 ≤ m ∧ m ≤ 12 := ⟨many.toNat, by omega, by omega, by omega⟩
    obtain ⟨r, rfl, hr1, hr2⟩ : ∃ r : Nat, rates = (r : Int) ∧ 1 ≤ r ∧ r ≤ 4 := ⟨rates.toNat, by omega, by omega, by omega⟩
    refine ⟨_, rfl, _, rfl, (by omega), (by omega), for_range (lo := 0) (n := m) (fun i σ H => ∃ v7 v8 v9, σ = [some (.ref w), some (.int g), some (.int way), some (.int m), some (.int r), some (.ref L), some (.ref S), v7, v8, v9] ∧
      ∃ ls qs bs, OS w L S H0 ls qs bs H ∧ ls.length = i ∧ bs.length = i ∧ (∀ l ∈ ls, 1 ≤ l ∧ l ≤ 20) ∧ ∀ row ∈ bs, RowOk r row) ⟨none, none, none, rfl, [], [], [], os0, rfl, rfl, (fun _ z => nomatch z), fun _ z => nomatch z⟩ ?_ ?_⟩
    · rintro i σ H hi ⟨v7, v8, v9, rfl, ls, qs, bs, os, e1, e2, ok1, ok2⟩
      obtain ⟨z0, z1, z2, hz⟩ := os.well
      refine ⟨_, rfl, .inl ⟨rfl, _, SqL.of os.hL⟩, _, rfl, w, z0, z1, z2, _, rfl, hz, (by decide), (by decide), fun d1 a0 a2 l1 u1 => ⟨_, _, rfl, rfl, ?_⟩⟩
      have os1 := os.upw (c0 := a0) (c1 := z1) (c2 := a2)
      generalize upd H w (.lst [.int a0, .int z1, .int a2]) = Ha at os1 ⊢
      obtain ⟨z0, z1, z2, hz⟩ := os1.well
      refine ⟨_, rfl, w, z0, z1, z2, _, rfl, hz, (by decide), (by decide), fun d2 a0 a2 l2 u2 => ⟨_, _, rfl, rfl, ?_⟩⟩
      have os2 := os1.upw (c0 := a0) (c1 := z1) (c2 := a2)
      generalize upd Ha w (.lst [.int a0, .int z1, .int a2]) = Hb at os2 ⊢
      obtain ⟨z0, z1, z2, hz⟩ := os2.well
      refine ⟨_, rfl, w, z0, z1, z2, _, rfl, hz, (by decide), (by decide), fun d3 a0 a2 l3 u3 => ⟨_, _, rfl, rfl, by show 4 ≤ sizeLine; decide, fun p hp => ?_⟩⟩
      have os3 := (os2.upw (c0 := a0) (c1 := z1) (c2 := a2)).new (o := .lst [.int (1 + d1), .int (1 + d2), .int (20 - d3), .int 4]) hp
      obtain ⟨v, hv, hvv⟩ := four_at (1 + d1) (1 + d2) (20 - d3) 4 way way0 way4
      have hv1 : 1 ≤ v ∧ v ≤ 20 := by omega
      refine ⟨_, rfl, p, _, way, _, rfl, rfl, SqL.of upd_same, hv, ?_⟩
      generalize upd (upd Hb w (.lst [.int a0, .int z1, .int a2])) p (.lst [.int (1 + d1), .int (1 + d2), .int (20 - d3), .int 4]) = Hc at os3 ⊢
      refine ⟨L, _, _, rfl, rfl, os3.hL, by rw [List.length_map]; exact small1000 (by omega), ?_⟩
      have os4 := os3.pushL (v := v)
      generalize upd Hc L (.lst (ls.map V.int ++ [.int v])) = Hd at os4 ⊢
      -- row
      refine ⟨Nat.zero_le _, fun R hR => ?_⟩
      have or0 : OR w L S R H0 (ls ++ [v]) qs bs [] (upd Hd R (.lst [])) := ⟨os4.new hR, os4.but.free os4.well hR, os4.wellNe hR, ne_of_none os4.hL hR, ne_of_none os4.hS hR, upd_same⟩
      generalize upd Hd R (.lst []) = He at or0 ⊢
      refine ⟨_, rfl, _, rfl, (by omega), (by omega), for_range (lo := 0) (n := r) (fun j σ H => ∃ v9, σ = [some (.ref w), some (.int g), some (.int way), some (.int m), some (.int r), some (.ref L), some (.ref S), some (.int (0 + (i : Int))), some (.ref R), v9] ∧
        ∃ row, OR w L S R H0 (ls ++ [v]) qs bs row H ∧ row.length = j ∧ ∀ b ∈ row, 1 ≤ b ∧ b ≤ 1000) ⟨v9, rfl, [], or0, rfl, fun _ z => nomatch z⟩ ?_ ?_⟩
      · rintro j σ H hj ⟨v9, rfl, row, os, e3, ok3⟩
        obtain ⟨z0, z1, z2, hz⟩ := os.os.well
        refine ⟨_, rfl, .inl ⟨rfl, _, SqL.of os.hR⟩, _, rfl, w, z0, z1, z2, _, rfl, hz, (by decide), (by decide), fun d1 a0 a2 l1 u1 => ⟨_, _, rfl, rfl, ?_⟩⟩
        have os1 := os.upw (c0 := a0) (c1 := z1) (c2 := a2)
        generalize upd H w (.lst [.int a0, .int z1, .int a2]) = Ha at os1 ⊢
        obtain ⟨z0, z1, z2, hz⟩ := os1.os.well
        refine ⟨_, rfl, w, z0, z1, z2, _, rfl, hz, (by decide), (by decide), fun d2 a0 a2 l2 u2 => ⟨_, _, rfl, rfl, ?_⟩⟩
        have os2 := os1.upw (c0 := a0) (c1 := z1) (c2 := a2)
        generalize upd Ha w (.lst [.int a0, .int z1, .int a2]) = Hb at os2 ⊢
        obtain ⟨z0, z1, z2, hz⟩ := os2.os.well
        refine ⟨_, rfl, w, z0, z1, z2, _, rfl, hz, (by decide), (by decide), fun d3 a0 a2 l3 u3 => ⟨_, _, rfl, rfl, _, rfl, _, _, rfl, rfl, .inl ⟨by decide, by decide⟩, _, _, rfl, rfl, by show 4 ≤ sizeLine; decide, fun p hp => ?_⟩⟩
        have os3 := (os2.upw (c0 := a0) (c1 := z1) (c2 := a2)).new (o := .lst [.int (1 + d1), .int (1 + d2), .int (1000 - d3), .int (10 * (0 + (j : Int)) + 9)]) hp
        obtain ⟨v, hv, hvv⟩ := four_at (1 + d1) (1 + d2) (1000 - d3) (10 * (0 + (j : Int)) + 9) way way0 way4
        have hv1 : 1 ≤ v ∧ v ≤ 1000 := by omega
        refine ⟨_, rfl, p, _, way, _, rfl, rfl, SqL.of upd_same, hv, ?_⟩
        generalize upd (upd Hb w (.lst [.int a0, .int z1, .int a2])) p (.lst [.int (1 + d1), .int (1 + d2), .int (1000 - d3), .int (10 * (0 + (j : Int)) + 9)]) = Hc at os3 ⊢
        refine ⟨R, _, _, rfl, rfl, os3.hR, by rw [List.length_map]; exact small1000 (by omega), ?_⟩
        refine ⟨some (.int (0 + (j : Int))), rfl, row ++ [v], os3.push, by rw [List.length_append, e3]; rfl, fun b hb => ?_⟩
        rcases List.mem_append.mp hb with q | q
        · exact ok3 b q
        · rw [List.mem_singleton.mp q]; exact hv1
      · rintro σ H ⟨v9, rfl, row, os, e3, ok3⟩
        refine ⟨_, rfl, .inl ⟨rfl, _, SqL.of os.os.hS⟩, _, rfl, R, _, rfl, .inl ⟨SqL.of os.hR, fun q hq => ?_⟩⟩
        have os1 := os.os.new (o := .tup (row.map V.int)) hq
        refine ⟨S, _, _, rfl, rfl, os1.hS, by rw [List.length_map, os1.rows.length]; exact small1000 (by omega), ?_⟩
        refine ⟨_, _, _, rfl, ls ++ [v], qs ++ [q], bs ++ [row], os1.pushS upd_same, by rw [List.length_append, e1]; rfl, by rw [List.length_append, e2]; rfl, fun l hl => ?_, fun l hl => ?_⟩
        · rcases List.mem_append.mp hl with q | q
          · exact ok1 l q
          · rw [List.mem_singleton.mp q]; exact hv1
        · rcases List.mem_append.mp hl with q | q
          · exact ok2 l q
          · rw [List.mem_singleton.mp q]; exact ⟨e3, ok3⟩
    · rintro σ H ⟨v7, v8, v9, rfl, ls, qs, bs, os, e1, e2, ok1, ok2⟩
      refine ⟨_, rfl, L, _, rfl, .inl ⟨SqL.of os.hL, fun a ha => ⟨_, rfl, S, _, rfl, .inl ⟨SqL.of (os.new (o := .tup (ls.map V.int)) ha).hS, fun b hb => ⟨by show 2 ≤ sizeLine; decide, fun p hp => ?_⟩⟩⟩⟩⟩
      have o1 := os.new (o := .tup (ls.map V.int)) ha
      have o2 := o1.new (o := .tup (qs.map V.ref)) hb
      have o3 := o2.new (o := .tup [.ref a, .ref b]) hp
      have ab : a ≠ b := ne_of_none (upd_same (H := H) (a := a) (o := .tup (ls.map V.int))) hb
      have bp : b ≠ p := ne_of_none (upd_same (a := b) (o := .tup (qs.map V.ref))) hp
      have ap : a ≠ p := ne_of_none (show upd (upd H a (.tup (ls.map V.int))) b (.tup (qs.map V.ref)) a = some (.tup (ls.map V.int)) by rw [upd_ne ab, upd_same]) hp
      refine k _ p ls bs o3.but o3.well ⟨a, b, qs, upd_same, ?_, ?_, o3.rows⟩ ⟨by omega, by omega, by omega, ok1, r, by omega, by omega, ok2⟩
      · rw [upd_ne ap, upd_ne ab, upd_same]
      · rw [upd_ne bp, upd_same]
end
end Rp

namespace Rp
open PySem PySem.Spec PyProof.Rows L2
/-! ### a def whose promise wants that nothing is being shown (repr) around it -/
structure FnG (P : Program) (w : World) (K : PySem.W.Frag) (mg : Str → Option Value) (base : Heap) (CX : CXT) (k : Nat) (f : Addr) (fd : FuncData) (ps : List Str) (sp : Sp) : Prop where
  len : ∀ vs H Q E, sp vs H Q E → vs.length = ps.length
  go : ∀ (A : Around) (outer : List Env) (s : Shared) (H : Hp) (args : Args) (us : List Value) (vs : List V) (Q : VK) (E : XK), A.guards = some [] → Room k A → Env0 P w K mg base A outer s H →
    BindsTo s fd args (ps.zip us) → Vals vs us → sp vs H Q E → codeAny (model P w) A (.call (.ref f) args) (CR CX outer P w H s Q E) s
theorem FnG.of {P : Program} {w : World} {K : PySem.W.Frag} {mg : Str → Option Value} {base : Heap} {CX : CXT} {k : Nat} {f : Addr} {fd : FuncData} {ps : List Str} {sp : Sp} (F : FnOk P w K mg base CX k f fd ps sp) : FnG P w K mg base CX k f fd ps sp :=
  ⟨F.len, fun A outer s H args us vs Q E _ => F.run A outer s H args us vs Q E⟩
theorem deeper_guards {A : Around} {env : Env} (h : A.guards = some []) : (A.deeper env).guards = some [] := h
section
variable {P : Program} {w : World} {K : PySem.W.Frag} {mg : Str → Option Value} {base : Heap} {CX : CXT}
/-- a def by its body, the guards known -/
theorem fnG_of {x qual : Str} {st : Stmt} {f : Addr} {fd : FuncData} {N ps : List Str} {k : Nat} {sp : Sp} (F : Fun K x qual st f fd) (S : FnScope N ps (defScope st)) (len : ∀ vs H Q E, sp vs H Q E → vs.length = ps.length)
    (hb : ∀ (cdv : Value) (A : Around) (outer : List Env) (s : Shared) (H : Hp) (vs : List V) (Q : VK) (E : XK), (A.deeper (envOfC qual (defScope st) s.heap.objs.size f cdv)).guards = some [] → Room k (A.deeper (envOfC qual (defScope st) s.heap.objs.size f cdv)) → sp vs H Q E →
      ∃ t, PSs (cxOf CX P w K mg base N qual (defScope st) f cdv A outer s H E) (defBody st) t ∧ t { nx := fun _ H' => Q .non H', rt := Q } (start N vs) H) : FnG P w K mg base CX (k + 1) f fd ps sp := by
  obtain ⟨oc, od, kV, doc, pm, an, cdv, ct, osl, rfl, lk, hcd⟩ := F.ex
  refine ⟨len, fun A outer s H args us vs Q E gA room en bi rel want => ?_⟩
  have kept : ∀ b o, base.get? b = some o → s.heap.get? b = some o := fun b o e => (en.bs b o e).1
  have inK : K.In s.heap := en.mod.kin.keeps kept
  refine codeAny_call_function room.depth (inK _ _ lk) rfl S.co S.gen rfl (PySem.W.codeRec_of inK hcd) (bi _ _ _ _ ?_)
  refine wpAny_newFunctionEnv_cells S.kind (fun y hy => ?_) fun env he s1 made => ?_
  · rcases S.par y.1 (List.of_mem_zip (show (y.1, y.2) ∈ ps.zip us from hy)).1 with q | q
    · exact .inl q
    · exact .inr ⟨q, PySem.W.cellsFrom_some _ _ _ (.inl q)⟩
  subst he
  refine ⟨(en.mod.nolimit.keeps kept).keeps made.toInCall.keep, codeAny_func ?_⟩
  obtain ⟨t, body, reads⟩ := hb cdv A outer s H vs Q E (deeper_guards gA) (room.deeper _) want
  refine wpAny_mono (body.run [] s1 (start N vs) H _ (inv_start S room.hd en (len _ _ _ _ want) rel made) reads) (fun fl s' hs => ?_) fun e s' hs => hs
  cases fl with
  | ret u =>
    obtain ⟨v, σ', H', J, rv, q⟩ := hs
    exact ⟨v, H', J.os, J.bare, J.base, J.hok, rv, q⟩
  | next =>
    obtain ⟨σ', H', J, q⟩ := hs
    exact ⟨V.non, H', J.os, J.bare, J.base, J.hok, rfl, q⟩
  | brk => exact absurd hs (fun ⟨_, _, _, z⟩ => (z : False))
  | cont => exact absurd hs (fun ⟨_, _, _, z⟩ => (z : False))
/-- .. that lets no error out -/
theorem okG {x qual : Str} {st : Stmt} {f : Addr} {fd : FuncData} {N ps : List Str} {k : Nat} {sp : Sp} (F : Fun K x qual st f fd) (S : FnScope N ps (defScope st)) (len : ∀ vs H Q E, sp vs H Q E → vs.length = ps.length)
    (hb : ∀ (cdv : Value) (A : Around) (outer : List Env) (s : Shared) (H : Hp) (vs : List V) (Q : VK) (E : XK), (A.deeper (envOfC qual (defScope st) s.heap.objs.size f cdv)).guards = some [] → Room k (A.deeper (envOfC qual (defScope st) s.heap.objs.size f cdv)) → sp vs H Q E →
      ∃ t, PSs (cxOf CX P w K mg base N qual (defScope st) f cdv A outer s H E).nox (defBody st) t ∧ t { nx := fun _ H' => Q .non H', rt := Q } (start N vs) H) : FnG P w K mg base CX (k + 1) f fd ps sp :=
  fnG_of F S len fun cdv A outer s H vs Q E gA room want => let ⟨t, body, reads⟩ := hb cdv A outer s H vs Q E gA room want; ⟨t, body.nox, reads⟩
end
section
variable {X : Cx} {CX : CXT} {k : Nat} {f C : Addr} {fd : FuncData} {ps : List Str} {sp : Sp} {E : XK} {x m : Str} {p pos apos : Pos} {e o : Expr} {es : List Expr} {ta : TE} {t : TA}
theorem runG {pins : List (Addr × Obj)} {σ : L2.St} {H : Hp} {s : Shared} {Q : VK} {us : List Value} {vs : List V} (F : FnG X.prog X.w X.K X.mg X.base CX k f fd ps sp) (gA : X.A.guards = some []) (room : Room k X.A) (hb : L2.Binds X.K fd ps [])
    (hx : Passes CX X E) (I : Inv X pins σ H s) (r : Vals vs us) (h : sp vs H Q E) : wpAny (model X.prog X.w) X.A (call (.ref f) us) (EP X pins σ Q) X.xe s := by
  have hl : (us ++ []).length = ps.length := by rw [List.append_nil, ← r.length]; exact F.len _ _ _ _ h
  have bi := hb s us I.kIn hl
  rw [List.append_nil] at bi
  refine wpAny_call (codeAny_mono (F.go X.A X.stack s H ⟨us, []⟩ us vs Q E gA room I.env0 bi r h) fun res s' hq => ?_)
  cases res with
  | error e => exact hx pins σ H s e s' I hq
  | ok fl =>
    cases fl with
    | ret u => exact I.after hq
    | next => exact hq.elim
    | brk => exact hq.elim
    | cont => exact hq.elim
def tCallG (sp : Sp) (E : XK) (t : TA) : TE := fun σ H Q => t σ H fun vs H1 => sp vs H1 Q E
theorem pe_callG (F : FnG X.prog X.w X.K X.mg X.base CX k f fd ps sp) (gA : X.A.guards = some []) (room : Room k X.A) (hg : Gl X x) (hm : X.mg x = some (.ref f)) (hk : PySem.W.keepIn X.K (.ref f) = true) (hb : L2.Binds X.K fd ps [])
    (hx : Passes CX X E) (ha : PA X (e :: es) t) (hdb : (x == ("__debug__" : Str)) = false := by decide) (hst : starEach (e :: es) X.env = (false, eval e X.env) :: starEach es X.env := by rfl)
    (hpl : (backTo pos (starEach es X.env)).any (·.1) = false := by rfl) : PE X (.Call (.Name x p) (e :: es) [] pos) (tCallG sp E t) :=
  ⟨fun pins s σ H Q I h => wpAny_Call_Name_kw (ld_glob I hg hm (PySem.W.callWith_K (h₀ := X.base) I.ok.mod.kin hk (thn (ha.run pos pins s σ H _ I h) fun us s1 ⟨vs, H1, I1, r, q⟩ => ⟨I1.kIn, runG F gA room hb hx I1 r q⟩) hst hpl) hdb)⟩
end
/-! ### repr of data -/
/-- what may be shown -/
structure Shw (d : PyData) : Prop where
  sh : d.showable = true
  nd : d.hasDict = false
  dp : d.depth ≤ 16
  sz : d.shown.length ≤ sizeLine
section
variable {X : Cx}
theorem call_reprD (gA : X.A.guards = some []) (hu : X.A.units + 64 < cLine) : CallR X (.builtin "repr") (fun xs H Q => ∃ x d, xs = [x] ∧ Dp X.K H x d ∧ Shw d ∧ Q (.str d.shown) H) := by
  intro pins s σ H xs us Q I r h
  obtain ⟨x, d, rfl, hd, hw, q⟩ := h
  cases r with
  | cons rx rn =>
    cases rn
    have dp := hw.dp
    cases hd with
    | non => cases rx; exact PySem.P.repr_of_none ⟨.str _, H, I.tok _, ⟨_, rfl⟩, q⟩
    | bl b => cases rx; exact PySem.P.repr_of_bool ⟨.str _, H, I.tok _, ⟨_, rfl⟩, q⟩
    | int i =>
      obtain ⟨t, rfl⟩ := rx
      exact PySem.P.repr_of_int (by have := hw.sh; simpa [PyData.showable] using this) ⟨.str _, H, I.tok _, ⟨_, rfl⟩, q⟩
    | str z =>
      obtain ⟨t, rfl⟩ := rx
      exact PySem.P.repr_of_str ⟨.str _, H, I.tok _, ⟨_, rfl⟩, q⟩ hw.sz
    | @lst a xs ds h1 h2 =>
      obtain ⟨as, rd⟩ := Dp.reads I (.list ds) (.ref a) _ (.lst h1 h2) rx
      cases rx
      exact repr_of_reads' rd hw.sh (PyData.noDict_hsm hw.nd) gA (by omega) (fun _ _ z => z) (fun h' u tk kp => ⟨.str _, H, I.kept kp, ⟨_, rfl⟩, q⟩) hw.sz
    | @tup a xs ds h1 h2 =>
      obtain ⟨as, rd⟩ := Dp.reads I (.tuple ds) (.ref a) _ (.tup h1 h2) rx
      cases rx
      exact repr_of_reads' rd hw.sh (PyData.noDict_hsm hw.nd) gA (by omega) (fun _ _ z => z) (fun h' u tk kp => ⟨.str _, H, I.kept kp, ⟨_, rfl⟩, q⟩) hw.sz
end
end Rp

namespace Rp
open PySem PySem.Spec PyProof.Rows L2
/-! ### ranges, sums -/
section
variable {X : Cx}
/-- range(n), as a value -/
theorem call_range1 : CallR X (.type "range") (fun vs H Q => ∃ n : Int, vs = [V.int n] ∧ ∀ p, H p = none → Q (.ref p) (upd H p (.rng 0 n))) := by
  intro pins s σ H vs us Q I r h
  obtain ⟨n, rfl, q⟩ := h
  cases r with
  | cons r1 rr =>
    cases rr
    obtain ⟨t, rfl⟩ := r1
    refine call_range_1 ⟨.ref s.heap.objs.size, upd H s.heap.objs.size (.rng 0 n), I.laid (a := s.heap.objs.size) (o := .rng 0 n) (fun b o e => Heap.get?_push_of_some _ e) (Nat.le_refl _) ?_, rfl, q _ (I.hok.fresh (Nat.le_refl _))⟩
    exact ⟨_, _, _, Heap.get?_push_size _ rfl⟩
/-- len of a range -/
theorem call_lenRng : CallR X (.builtin "len") (fun vs H Q => ∃ (a : Addr) (n : Nat), vs = [V.ref a] ∧ H a = some (.rng 0 n) ∧ n < 2 ^ 62 ∧ Q (.int n) H) := by
  intro pins s σ H vs us Q I r h
  obtain ⟨a, n, rfl, ha, hn, q⟩ := h
  cases r with
  | cons r1 rr =>
    cases rr
    cases r1
    obtain ⟨t1, t2, t3, ho⟩ := I.hok a _ ha
    refine call_len_range (n := n) ho ?_ (by omega) ⟨.int n, H, I.tok _, ⟨_, rfl⟩, q⟩
    unfold Builtin.Range.rangeSize
    simp
    try omega
/-- sum of a tuple of whole numbers -/
theorem call_sumT (hc : X.calm = true) : CallR X (.builtin "sum") (fun vs H Q => ∃ (a : Addr) (ns : List Int), vs = [V.ref a] ∧ SqT X.K H a (ns.map V.int) ∧ Q (.int ns.sum) H) := by
  intro pins s σ H vs us Q I r h
  obtain ⟨a, ns, rfl, ha, q⟩ := h
  cases r with
  | cons r1 rr =>
    cases rr
    cases r1
    obtain ⟨its, rv, hl, _⟩ := I.tuple ha
    have hi := rv.ints
    obtain ⟨xs, hx⟩ := hi.allInts.items
    have hn : numsOf its.toArray.toList = ns := by rw [show its.toArray.toList = its from rfl, hi.numsOf]
    rw [hx] at hl hn
    rw [nums_intItems] at hn
    refine PySem.W.ktm_sumG (I.ok.hd hc) hl fun h' tk t' hk => ?_
    rw [preSum_eq, List.take_of_length_le (by simp), hn]
    exact ⟨.int ns.sum, H, I.kept hk, ⟨_, rfl⟩, q⟩
end
/-! ### len(x), x's own __len__ -/
section
variable {X : Cx} {CX : CXT} {k : Nat} {f C : Addr} {fd : FuncData} {ps : List Str} {sp : Sp} {E : XK}
def rLenI (C : Addr) (sp : Sp) (E : XK) : List V → Hp → VK → Prop := fun xs H Q => ∃ (a dx : Addr) (fs : List (Str × V)), xs = [.ref a] ∧ H a = some (.ins C dx fs) ∧ sp [.ref a] H (fun v H' => ∃ n : Nat, v = .int n ∧ n < 2 ^ 62 ∧ Q (.int n) H') E
theorem call_lenI (F : FnOk X.prog X.w X.K X.mg X.base CX k f fd ps sp) (hs : PySem.W.findIn X.K (.ref C) "__len__" = some (some (.ref f))) (hf : PySem.W.isFn X.K (.ref f) = true) (hb : L2.Binds X.K fd ps []) (hx : Passes CX X E) (hr : Room (k + 1) X.A) :
    CallR X (.builtin "len") (rLenI C sp E) := by
  intro pins s σ H vs us Q I r h
  obtain ⟨a, dx, fs, rfl, ha, hsp⟩ := h
  cases r with
  | cons r1 rr =>
    cases rr
    cases r1
    obtain ⟨mA, J, _⟩ := ins_get I.hok ha
    obtain ⟨od, J, _⟩ := J.look
    obtain ⟨m, hF⟩ := I.fr
    have e0 : Env0 X.prog X.w X.K X.mg X.base X.A.in1 X.stack s H := by
      have e := I.env0
      exact ⟨e.frames, e.mod, e.bs, e.bsz, e.funs, e.frf, e.hok, e.bare⟩
    have hl := F.len _ _ _ _ hsp
    refine PySem.W.len_K hF I.ok.mod.kin J hs hf (wpAny_call (codeAny_mono (F.run X.A.in1 X.stack s H ⟨[.ref a], []⟩ [.ref a] [.ref a] _ E hr.in1 e0 (by
      have := hb s [.ref a] I.kIn (by simpa using hl)
      simpa using this) (.cons rfl .nil) hsp) fun r s' hq => ?_))
    cases r with
    | error e => exact hx pins σ H s e s' I hq
    | ok fl =>
      cases fl with
      | ret w =>
        obtain ⟨z, H', I', rz, n, ez, hn, q⟩ := I.after hq
        subst ez
        obtain ⟨t, rfl⟩ := rz
        show PySem.W.LenBack _ _ _
        exact ⟨⟨by omega, by omega⟩, .int n, H', I'.tok _, ⟨_, rfl⟩, q⟩
      | next => exact False.elim hq
      | brk => exact False.elim hq
      | cont => exact False.elim hq
end
/-! ### a def that may be called while an error is handled, too; nothing is being shown around it -/
structure RoomA (k : Nat) (A : Around) : Prop where
  dp : A.depth + 3 * k + 5 < recursionLimit
  un : A.units + 16 * k + 200 < cLine
theorem RoomA.of {k : Nat} {A : Around} (r : Room k A) : RoomA k A := ⟨r.dp, r.un⟩
structure FnA (P : Program) (w : World) (K : PySem.W.Frag) (mg : Str → Option Value) (base : Heap) (CX : CXT) (k : Nat) (f : Addr) (fd : FuncData) (ps : List Str) (sp : Sp) : Prop where
  len : ∀ vs H Q E, sp vs H Q E → vs.length = ps.length
  go : ∀ (A : Around) (outer : List Env) (s : Shared) (H : Hp) (args : Args) (us : List Value) (vs : List V) (Q : VK) (E : XK), A.guards = some [] → RoomA k A → Env0 P w K mg base A outer s H →
    BindsTo s fd args (ps.zip us) → Vals vs us → sp vs H Q E → codeAny (model P w) A (.call (.ref f) args) (CR CX outer P w H s Q E) s
/-- the body's context -/
def cxA (CX : CXT) (P : Program) (w : World) (K : PySem.W.Frag) (mg : Str → Option Value) (base : Heap) (N : List Str) (qual : Str) (scope : Scope) (f : Addr) (cd : Value) (A : Around) (outer : List Env) (s : Shared) (H : Hp) (E : XK) : Cx :=
  { cxOf CX P w K mg base N qual scope f cd A outer s H E with calm := false }
section
variable {P : Program} {w : World} {K : PySem.W.Frag} {mg : Str → Option Value} {base : Heap} {CX : CXT}
theorem startA {N ps : List Str} {qual : Str} {scope : Scope} {f : Addr} {cd : Value} {A : Around} {outer : List Env} {s s1 : Shared} {H : Hp} {E : XK} {us : List Value} {vs : List V}
    (S : FnScope N ps scope) (e0 : Env0 P w K mg base A outer s H) (hl : vs.length = ps.length) (r : Vals vs us)
    (x : InCallC s s.heap.objs.size (bindL (envOfC qual scope s.heap.objs.size f cd).kindOf (ps.zip us) fun _ => none) (cellsFrom (s.heap.objs.size + 1) scope.names []) (bindC (envOfC qual scope s.heap.objs.size f cd).kindOf (ps.zip us) fun _ => none) s1) :
    Inv (cxA CX P w K mg base N qual scope f cd A outer s H E) [] (start N vs) H s1 := by
  have I := inv_start (CX := CX) (A := { A with handled := none }) (E := E) S rfl (⟨e0.frames, e0.mod, e0.bs, e0.bsz, e0.funs, e0.frf, e0.hok, e0.bare⟩ : Env0 P w K mg base { A with handled := none } outer s H) hl r x
  have o := I.ok
  exact ⟨⟨o.mod, o.kind, o.glob, o.blt, o.above, o.inj, o.has, o.cab, (fun z => Bool.noConfusion (show false = true from z)), o.frames, o.stk, o.exf, o.bs, o.bsz, o.noex, o.exfs, o.funs, o.frf⟩, I.os, I.bare, I.base, I.loc, I.cell, I.free, I.freeC, I.pin, I.hok, I.len⟩
theorem okA {x qual : Str} {st : Stmt} {f : Addr} {fd : FuncData} {N ps : List Str} {k : Nat} {sp : Sp} (F : Fun K x qual st f fd) (S : FnScope N ps (defScope st)) (len : ∀ vs H Q E, sp vs H Q E → vs.length = ps.length)
    (hb : ∀ (cdv : Value) (A : Around) (outer : List Env) (s : Shared) (H : Hp) (vs : List V) (Q : VK) (E : XK), (A.deeper (envOfC qual (defScope st) s.heap.objs.size f cdv)).guards = some [] → (A.deeper (envOfC qual (defScope st) s.heap.objs.size f cdv)).units + 200 < cLine → sp vs H Q E →
      ∃ t, PSs (cxA CX P w K mg base N qual (defScope st) f cdv A outer s H E) (defBody st) t ∧ t { nx := fun _ H' => Q .non H', rt := Q } (start N vs) H) : FnA P w K mg base CX (k + 1) f fd ps sp := by
  obtain ⟨oc, od, kV, doc, pm, an, cdv, ct, osl, rfl, lk, hcd⟩ := F.ex
  refine ⟨len, fun A outer s H args us vs Q E gA room en bi rel want => ?_⟩
  have kept : ∀ b o, base.get? b = some o → s.heap.get? b = some o := fun b o e => (en.bs b o e).1
  have inK : K.In s.heap := en.mod.kin.keeps kept
  refine codeAny_call_function (by have := room.dp; omega) (inK _ _ lk) rfl S.co S.gen rfl (PySem.W.codeRec_of inK hcd) (bi _ _ _ _ ?_)
  refine wpAny_newFunctionEnv_cells S.kind (fun y hy => ?_) fun env he s1 made => ?_
  · rcases S.par y.1 (List.of_mem_zip (show (y.1, y.2) ∈ ps.zip us from hy)).1 with q | q
    · exact .inl q
    · exact .inr ⟨q, PySem.W.cellsFrom_some _ _ _ (.inl q)⟩
  subst he
  refine ⟨(en.mod.nolimit.keeps kept).keeps made.toInCall.keep, codeAny_func ?_⟩
  obtain ⟨t, body, reads⟩ := hb cdv A outer s H vs Q E (deeper_guards gA) (by have := room.un; show A.units + 3 + 200 < _; omega) want
  refine wpAny_mono (body.run [] s1 (start N vs) H _ (startA S en (len _ _ _ _ want) rel made) reads) (fun fl s' hs => ?_) fun e s' hs => hs
  cases fl with
  | ret u =>
    obtain ⟨v, σ', H', J, rv, q⟩ := hs
    exact ⟨v, H', J.os, J.bare, J.base, J.hok, rv, q⟩
  | next =>
    obtain ⟨σ', H', J, q⟩ := hs
    exact ⟨V.non, H', J.os, J.bare, J.base, J.hok, rfl, q⟩
  | brk => exact absurd hs (fun ⟨_, _, _, z⟩ => (z : False))
  | cont => exact absurd hs (fun ⟨_, _, _, z⟩ => (z : False))
end
/-! ### repr(x), {x!r} -/
section
variable {X : Cx} {CX : CXT} {k : Nat} {f C : Addr} {fd : FuncData} {ps : List Str} {sp : Sp} {E : XK}
/-- {x!r} of small data -/
def tFmtRD (K : PySem.W.Frag) (te : TE) : TE := fun σ H Q => te σ H fun x H1 => ∃ (a : Addr) (d : PyData), x = .ref a ∧ Dp K H1 x d ∧ Shw d ∧ Q (.str d.shown) H1
theorem pe_fmtRD {e : Expr} {te : TE} {pos : Pos} (gA : X.A.guards = some []) (hu : X.A.units + 64 < cLine) (he : PE X e te) : PE X (.FormattedValue e 114 none pos) (tFmtRD X.K te) := by
  refine ⟨fun pins s σ H Q I h => ?_⟩
  refine wpAny_FormattedValue_repr (thn (he.run pins s σ H _ I h) fun v s1 hv => ?_)
  obtain ⟨x, H1, I1, r1, a, d, rfl, hd, hw, q⟩ := hv
  obtain ⟨as, rd⟩ := Dp.reads I1 d (.ref a) _ hd r1
  cases r1
  have dp := hw.dp
  refine pyReprObj_of_reads rd hw.sh (PyData.noDict_hsm hw.nd) gA (by omega) (fun _ _ z => z) (fun h' u tk kp => ?_) hw.sz
  exact wpAny_formatField_str ⟨.str d.shown, H1, I1.kept kp, ⟨_, rfl⟩, q⟩ ⟨.str d.shown, H1, (I1.kept (t' := tk) kp).tok _, ⟨_, rfl⟩, q⟩ hw.sz
def rReprI (C : Addr) (sp : Sp) (E : XK) : List V → Hp → VK → Prop := fun xs H Q => ∃ (a dx : Addr) (fs : List (Str × V)), xs = [.ref a] ∧ H a = some (.ins C dx fs) ∧ sp [.ref a] H (fun v H' => ∃ t : Str, v = .str t ∧ Q (.str t) H') E
theorem call_reprI (F : FnA X.prog X.w X.K X.mg X.base CX k f fd ps sp) (hs : PySem.W.findIn X.K (.ref C) "__repr__" = some (some (.ref f))) (hf : PySem.W.isFn X.K (.ref f) = true) (hb : L2.Binds X.K fd ps []) (hx : Passes CX X E) (gA : X.A.guards = some []) (hr : RoomA (k + 1) X.A) :
    CallR X (.builtin "repr") (rReprI C sp E) := by
  intro pins s σ H vs us Q I r h
  obtain ⟨a, dx, fs, rfl, ha, hsp⟩ := h
  cases r with
  | cons r1 rr =>
    cases rr
    cases r1
    obtain ⟨mA, J, _⟩ := ins_get I.hok ha
    obtain ⟨od, J, _⟩ := J.look
    obtain ⟨m, hF⟩ := I.fr
    have e0 : Env0 X.prog X.w X.K X.mg X.base X.A.in1 X.stack s H := by
      have e := I.env0
      exact ⟨e.frames, e.mod, e.bs, e.bsz, e.funs, e.frf, e.hok, e.bare⟩
    have hl := F.len _ _ _ _ hsp
    have d1 := hr.dp
    have u1 := hr.un
    refine PySem.W.repr_K (by show X.A.units + 1 < _; omega) hF I.ok.mod.kin J hs hf (wpAny_call (codeAny_mono (F.go X.A.in1 X.stack s H ⟨[.ref a], []⟩ [.ref a] [.ref a] _ E gA ⟨by show X.A.depth + 3 * k + 5 < _; omega, by show X.A.units + 1 + 16 * k + 200 < _; omega⟩ e0 (by
      have := hb s [.ref a] I.kIn (by simpa using hl)
      simpa using this) (.cons rfl .nil) hsp) fun r s' hq => ?_))
    cases r with
    | error e => exact hx pins σ H s e s' I hq
    | ok fl =>
      cases fl with
      | ret w =>
        obtain ⟨z, H', I', rz, t, ez, q⟩ := I.after hq
        subst ez
        obtain ⟨tk, rfl⟩ := rz
        show PySem.W.StrBack _ _ _
        exact ⟨.str t, H', I', ⟨_, rfl⟩, q⟩
      | next => exact False.elim hq
      | brk => exact False.elim hq
      | cont => exact False.elim hq
/-- a dict of small numbers -/
def DkAt (H : Hp) (v : V) (d : PyData) : Prop := ∃ (a : Addr) (ns : List (Int × Int)), v = .ref a ∧ H a = some (.dK (ns.map fun p => (Sum.inl p.1, V.int p.2))) ∧ d = .dict (ns.map fun p => (.int p.1, .int p.2))
theorem dk_pairs {h : Heap} : ∀ {ns : List (Int × Int)} {vs : List (Key × Value)}, KV (ns.map fun p => ((Sum.inl p.1 : Key), V.int p.2)) vs → ∃ bs, PyProof.V.PairsRead h (fun k : Key => match k with | .inl i => PyData.int i | .inr x => PyData.str x) vs (ns.map fun p => (.int p.1, .int p.2)) bs
  | [], _, r => by
    cases r
    exact ⟨_, .nil⟩
  | p :: ns, _, r => by
    cases r with
    | @cons _ q _ qs e t =>
      obtain ⟨qk, qv⟩ := q
      obtain ⟨e1, tk, e2⟩ := e
      obtain ⟨bs, ih⟩ := dk_pairs (h := h) t
      simp only at e1 e2
      subst e1 e2
      exact ⟨_, .cons (.int _ _) ih⟩
theorem dk_reads {pins : List (Addr × Obj)} {σ : L2.St} {H : Hp} {s : Shared} {v : V} {d : PyData} {u : Value} (I : Inv X pins σ H s) (h : DkAt H v d) (r : RelV v u) : ∃ a as, u = .ref a ∧ Reads s.heap (.ref a) d as ∧ sysModules ∉ as := by
  obtain ⟨a, ns, rfl, ha, rfl⟩ := h
  cases r
  obtain ⟨_, hne, vs, rel, dd⟩ := I.hok a _ ha
  obtain ⟨bs, pr⟩ := dk_pairs (h := s.heap) rel
  have nb : bs = [] := by
    clear dd rel
    generalize hD : (ns.map fun p => (PyData.int p.1, PyData.int p.2)) = D at pr
    have : ∀ {kvs : List (Key × Value)} {D : List (PyData × PyData)} {bs : List Addr} {ns : List (Int × Int)}, (ns.map fun p => (PyData.int p.1, PyData.int p.2)) = D → PyProof.V.PairsRead s.heap (fun k : Key => match k with | .inl i => PyData.int i | .inr x => PyData.str x) kvs D bs → bs = [] := by
      intro kvs D bs ns e p
      induction p generalizing ns with
      | nil => rfl
      | @cons k' v' d' as kvs D bs r _ ih =>
        cases ns with
        | nil => cases e
        | cons n ns =>
          injection e with e1 e2
          injection e1 with _ e3
          subst e3
          cases r
          rw [ih e2]
          rfl
    exact this hD pr
  subst nb
  refine ⟨a, [a], rfl, PyProof.V.reads_dictOf (fun k key hk => ?_) dd pr, fun z => ?_⟩
  · rcases keyIs_shape hk with ⟨i, t, rfl, rfl⟩ | ⟨x, t, rfl, rfl⟩
    · exact .int _ _
    · exact .str _ _
  · rw [List.mem_singleton.mp z] at hne
    simp at hne
end
end Rp

namespace Rp
open PySem PySem.Spec PyProof.Rows L2
/-! ### enumerate(list, start=c) -/
/-- the list at a as it stands at each turn, each item in a new pair, counted from c on -/
def IteK (K : PySem.W.Frag) (a : Addr) (c : Int) : It :=
  ⟨fun i H => ∃ (xs : List V) (x : V), SqL K H a xs ∧ xs[i]? = some x, fun i H v H' => ∃ T x, v = .ref T ∧ H T = none ∧ H' = upd H T (.tup [.int (c + (i : Nat)), x]) ∧ ∀ xs, SqL K H a xs → xs[i]? = some x, fun i H => ∃ xs : List V, SqL K H a xs ∧ xs.length = i⟩
theorem turn_enumK {P : Program} {w : World} {K : PySem.W.Frag} {elts : List Expr} {kk : Nat} {tpos : Pos} (a e it : Addr) (c : Int) :
    Turn P w K (.Tuple elts kk tpos) (IteK K a c) [e, it] e (fun i h => (∃ old, IsEnum h e it (c + (i : Nat)) old) ∧ h.IsListIter it a i ∧ e ≠ it) where
  mem := by simp
  obj := fun i h st b hb => by
    obtain ⟨⟨old, he⟩, ⟨o, ho, hc, hd⟩, _⟩ := st
    have e' : b = e ∨ b = it := by simpa using hb
    rcases e' with z | z
    · rw [z]; exact ⟨_, he, fun v q => nomatch q⟩
    · rw [z]; exact ⟨o, ho, fun v q => by rw [hd] at q; cases q⟩
  keep := fun i h h' st k => let ⟨⟨old, he⟩, hi, hne⟩ := st; ⟨⟨old, k e (by simp) _ he⟩, hi.at fun o q => k it (by simp) o q, hne⟩
  item := by
    intro X hP hw hK hc i pins s σ H E I hf st hg
    subst hP hw hK
    obtain ⟨⟨old, he⟩, hit, hne⟩ := st
    obtain ⟨xs, x, hq, hx⟩ := hg
    obtain ⟨its, rv, p, hz⟩ := I.list hq
    obtain ⟨u, hu, ru⟩ := rv.get hx
    have hel : e < s.heap.objs.size := Heap.lt_size he
    have hil : it < s.heap.objs.size := by obtain ⟨_, q, _⟩ := hit; exact Heap.lt_size q
    have hea : e ≠ a := fun z => by
      obtain ⟨o, h1, h2, _⟩ := p.isList
      rw [← z] at h1
      have h3 := he.symm.trans h1
      cases h3
      injection h2 with h2
      exact absurd h2 (by decide)
    have hia : a ≠ it := fun z => by
      obtain ⟨o, h1, h2, _⟩ := p.isList
      obtain ⟨o', h3, h4, _⟩ := hit
      rw [z, h3] at h1
      cases h1
      rw [h4] at h2
      injection h2 with h2
      exact absurd h2 (by decide)
    have hin : its.toArray[i]? = some u := by simpa using hu
    have hlt : i < its.toArray.size := by
      obtain ⟨h, _⟩ := Array.getElem?_eq_some_iff.mp hin
      exact h
    have D := Draws.list (prog := X.prog) (w := X.w) (A := X.A.in1) (I.ok.hd hc) it a hia its.toArray
    refine wpAny_pyNext_enum_itemC D he ⟨hit, p.isList⟩ hlt hne (by simp [hne, hea]) fun x' h' tk hP ho hst hT hsz hk => ?_
    have ex : x' = u := Option.some.inj (hP.symm.trans hin)
    subst ex
    obtain ⟨hit', _⟩ := hst
    refine ⟨_, rfl, wpAny_letOwnedTupleGo_enum (s := { s with heap := h', toks := tk + 1 }) ho fun h'' he' sb => ?_⟩
    have hT2 : h''.get? s.heap.objs.size = some { cls := .type "tuple", data := .seq #[.int (c + (i : Nat)) tk, x'] } := (sb.2 _ (Nat.ne_of_gt hel)).trans hT
    have new : ObjOk X.prog X.w (upd H s.heap.objs.size (.tup [.int (c + (i : Nat)), x])) h'' s.heap.objs.size (.tup [.int (c + (i : Nat)), x]) :=
      ⟨by show 2 ≤ sizeLine; decide, [.int (c + (i : Nat)) tk, x'], .cons ⟨_, rfl⟩ (.cons ru .nil), ⟨_, hT2, rfl, _, rfl⟩⟩
    have I1 : Inv X pins σ (upd H s.heap.objs.size (.tup [.int (c + (i : Nat)), x])) { s with heap := h'', toks := tk + 1 } :=
      I.turnedNew (ch := [e, it]) (fun b ob hb q => (sb.2 b (fun z => hb (by simp [z]))).trans (hk b ob (fun z => hb (by simp [z])) (fun z => hb (by simp [z])) q)) hf (Nat.le_refl _) new
    refine ⟨.ref s.heap.objs.size, _, I1, rfl, ⟨_, x, rfl, I.hok.fresh (Nat.le_refl _), rfl, fun ys hy => by rw [I.list_inj hy hq]; exact hx⟩, ⟨⟨x', ?_⟩, hit'.at fun o q => (sb.2 it (Ne.symm hne)).trans q, hne⟩, fun b hb => ?_⟩
    · have e1 : c + ((i + 1 : Nat) : Int) = c + (i : Int) + 1 := by omega
      rw [e1]; exact he'
    · have hb' : b < s.heap.objs.size := by
        have e' : b = e ∨ b = it := by simpa using hb
        rcases e' with z | z
        · rw [z]; exact hel
        · rw [z]; exact hil
      rw [upd_ne (Nat.ne_of_lt hb')]
      exact (hf b hb).1
  done := by
    intro X hP hw hK hc i pins s σ H E I hf st hg
    subst hP hw hK
    obtain ⟨⟨old, he⟩, hit, hne⟩ := st
    obtain ⟨xs, hq, hx⟩ := hg
    obtain ⟨its, rv, p, hz⟩ := I.list hq
    obtain ⟨f0, f1, f2, f3, f4, f5⟩ := hf it (by simp)
    have hl := rv.length
    have hia : a ≠ it := fun z => by
      obtain ⟨o, h1, h2, _⟩ := p.isList
      obtain ⟨o', h3, h4, _⟩ := hit
      rw [z, h3] at h1
      cases h1
      rw [h4] at h2
      injection h2 with h2
      exact absurd h2 (by decide)
    have D := Draws.list (prog := X.prog) (w := X.w) (A := X.A.in1) (I.ok.hd hc) it a hia its.toArray
    exact wpAny_pyNext_enum_endD D he ⟨by rw [List.size_toArray, ← hl, hx]; exact hit, p.isList⟩ fun h' eb => ⟨rfl, I.turned (t' := s.toks) (fun b o hb q => eb b o hb q) f0 f1 f3 f4 f5⟩
  self := fun A i s Q E st h => let ⟨⟨_, he⟩, _⟩ := st; wpAny_pyIter_enum he h
theorem keeps_type {M : Model} {h : Heap} (n : String) : PySem.W.Looks M h (keeperOf (.type n)) Keeper.machine := by
  show PySem.W.Looks M h (pure Keeper.machine) _
  exact .now
def iEnumK (K : PySem.W.Frag) (ta tk : TA) : TI := fun σ H R => ta σ H fun vs H1 => tk σ H1 fun zs H2 => ∃ (a : Addr) (xs : List V) (c : Int), vs = [.ref a] ∧ zs = [.int c] ∧ -(2 ^ 62) ≤ c ∧ c < 2 ^ 62 ∧ SqL K H2 a xs ∧ R (IteK K a c) H2
theorem pi_enumK {X : Cx} {e : Expr} {ta tk : TA} {kws : List Keyword} {p pos tpos : Pos} {elts : List Expr} {kk : Nat} (hg : Gl X "enumerate") (hm : X.mg "enumerate" = none) (ha : PA X [e] ta) (hkw : PK X kws tk)
    (hall : (backToKw pos (keywordEach kws X.env)).all (·.1.isSome) = true := by rfl) (hks : (backToKw pos (keywordEach kws X.env)).filterMap (·.1) = [Str.ofString "start"] := by rfl)
    (he : starEach [e] X.env = (false, eval e X.env) :: starEach [] X.env := by rfl)
    (hpl : ((backTo pos (starEach [e] X.env)).any (·.1) || (backToKw pos (keywordEach kws X.env)).any (·.1.isNone)) = false := by rfl) :
    PI X (.Tuple elts kk tpos) (.Call (.Name "enumerate" p) [e] kws pos) (iEnumK X.K ta tk) := by
  refine ⟨fun pins s σ H R I h => ?_⟩
  refine wpAny_Call_Name_kw (ld_blt I hg hm boot_enumerate ?_)
  refine PySem.W.callWith_of (P := fun _ => True) hpl (fun h _ => ⟨_, .inr (.inl rfl), keeps_type _⟩) (PyProof.Rows.evalArgs_kw2 hall (thn (ha.run pos pins s σ H _ I h) fun us s1 ⟨vs, H1, I1, r1, q1⟩ => ?_) he)
  refine thn (hkw.run pos pins s1 σ H1 _ I1 q1) fun ws s2 ⟨zs, H2, I2, rz, a, xs, c, ev, ez, c0, c1, hq, q⟩ => ⟨True.intro, ?_⟩
  rw [hks]
  subst ev ez
  cases r1 with
  | cons r rr =>
    cases rr
    cases r
    cases rz with
    | cons r2 rr =>
      cases rr
      obtain ⟨tk2, rfl⟩ := r2
      obtain ⟨its, rv, p', hz⟩ := I2.list hq
      refine enum_begins_start (begins_list a its.toArray) p'.isList (by omega) (by omega) fun h' he hit hsz hk => ?_
      refine wpAny_pyIter_enum he ?_
      have I3 : Inv X pins σ H2 { s2 with heap := h' } := I2.kept (t' := s2.toks) hk
      refine ⟨s2.heap.objs.size + 1, [s2.heap.objs.size + 1, s2.heap.objs.size], _, _, H2, rfl, I3, turn_enumK a (s2.heap.objs.size + 1) s2.heap.objs.size c, ⟨⟨.none, by rw [show c + ((0 : Nat) : Int) = c by omega]; exact he⟩, ⟨_, hit, rfl, rfl⟩, Nat.succ_ne_self _⟩, fun b hb => ?_, q⟩
      have e' : b = s2.heap.objs.size + 1 ∨ b = s2.heap.objs.size := by simpa using hb
      have hle : s2.heap.objs.size ≤ b := by
        rcases e' with z | z
        · rw [z]; exact Nat.le_add_right _ _
        · rw [z]; exact Nat.le_refl _
      exact I2.fpOk hle (I2.hok.fresh hle)
/-- a loop over enumerate(list, start=c) -/
theorem for_enumK {K : PySem.W.Frag} {a : Addr} {c : Int} {xs : List V} {g : TG} {tb : TS} {D : Ends} {σ : L2.St} {H : Hp} (Pv : Nat → L2.St → Hp → Prop) (h0 : Pv 0 σ H) (hq : ∀ i σ H, Pv i σ H → SqL K H a xs)
    (hs : ∀ (i : Nat) (x : V) (T : Addr) (σ : L2.St) (H : Hp), xs[i]? = some x → Pv i σ H → H T = none → g (.ref T) σ (upd H T (.tup [.int (c + (i : Nat)), x])) fun σ2 H2 => tb { D with nx := Pv (i + 1), ct := Pv (i + 1), bk := D.nx } σ2 H2) (hd : ∀ σ H, Pv xs.length σ H → D.nx σ H) :
    ∃ W : Nat → Nat → L2.St → Hp → Prop, (∃ m, W 0 m σ H) ∧ ∀ i m σ H, W i m σ H →
      ((IteK K a c).stop i H ∧ D.nx σ H) ∨ ((IteK K a c).go i H ∧ ∃ N : L2.St → Hp → Prop, (∀ σ' H', N σ' H' → ∃ m', m' < m ∧ W (i + 1) m' σ' H') ∧ ∀ v H', (IteK K a c).yld i H v H' → g v σ H' fun σ2 H2 => tb { D with nx := N, ct := N, bk := D.nx } σ2 H2) := by
  refine ⟨fun i m σ H => m = xs.length - i ∧ i ≤ xs.length ∧ Pv i σ H, ⟨xs.length, rfl, Nat.zero_le _, h0⟩, ?_⟩
  rintro i m σ H ⟨rfl, hi, p⟩
  have qx := hq i σ H p
  by_cases hlt : i < xs.length
  · have hx : xs[i]? = some xs[i] := List.getElem?_eq_getElem hlt
    refine .inr ⟨⟨xs, _, qx, hx⟩, Pv (i + 1), fun σ' H' p' => ⟨xs.length - (i + 1), by omega, rfl, hlt, p'⟩, fun v H' y => ?_⟩
    obtain ⟨T, x', rfl, hT, rfl, f1⟩ := y
    exact hs i x' T σ H (f1 xs qx) p hT
  · have e : i = xs.length := by omega
    subst e
    exact .inl ⟨⟨xs, qx, rfl⟩, hd σ H p⟩
end Rp

/-! all of a list of whole numbers. -/
namespace Rp
open PySem PySem.Spec PyProof.Rows L2
theorem ints_at : ∀ {vs : List Value} {ns : List Int} {i : Nat} {v : Value}, IntsAre vs ns → vs[i]? = some v → ∃ n t, ns[i]? = some n ∧ v = .int n t
  | _, _, i, v, .nil, h => by simp at h
  | _, _, 0, v, .cons n t r, h => ⟨n, t, rfl, (Option.some.inj h).symm⟩
  | _, _, i + 1, v, .cons n t r, h => ints_at (i := i) r (by simpa using h)
def rAllI (K : PySem.W.Frag) : List V → Hp → VK → Prop := fun vs H Q => ∃ (p : Addr) (ns : List Int), vs = [.ref p] ∧ SqL K H p (ns.map V.int) ∧ Q (.bl ((ns.map fun n => n != 0).all id)) H
theorem cr_allI {X : Cx} (hcalm : X.calm = true) : CallR X (.builtin "all") (rAllI X.K) := fun pins s σ H vs us Q I r ⟨p, ns, ev, hp, q⟩ => by
  subst ev
  obtain ⟨its, rel, hl, _⟩ := I.list hp
  have hi : IntsAre its ns := rel.ints
  have tr : TruthOf X.prog X.w X.A.in1 (fun i v => its.toArray[i]? = some v) (fun i => (ns.map fun n => n != 0).getD i false) := fun i v s Q E hv hq => by
    obtain ⟨n, t, hn, rfl⟩ := ints_at hi (i := i) (by simpa using hv)
    refine P.truthy_int ?_
    have e : (ns.map fun n => n != 0).getD i false = (n != 0) := by rw [List.getD_eq_getElem?_getD, List.getElem?_map, hn]; rfl
    rw [← e]
    exact hq
  rw [Vals.ref1 r]
  refine call_all_walk (iter_any hl.isList fun s2 es st hne => ?_)
  subst es
  refine ⟨_, _, _, _, _, _, _, rfl, Walks.list (A := X.A.in1) (I.ok.hd hcalm) _ p hne its.toArray, st, tr, fun h' tk hk => ⟨.bl _, H, I.kept fun b o eo => hk b o (fun hm => ?_) (Heap.get?_push_of_some _ eo), ?_, q⟩⟩
  · have hb := Heap.lt_size eo
    simp only [List.mem_cons, List.not_mem_nil, or_false] at hm
    rw [hm] at hb
    exact Nat.lt_irrefl _ hb
  · have len : its.toArray.size = (ns.map fun n => n != 0).length := by
      have := rel.length
      rw [List.length_map] at this
      rw [List.size_toArray, List.length_map, ← this]
    show Value.bool _ = .bool _
    rw [← L2.all_range, len]
end Rp

namespace Rp
open PySem PySem.Spec PyProof.Rows L2 TL
/-! ### the text of a talk, as texts -/
def num (n : Nat) : Str := Str.ofString (toString ((n : Nat) : Int))
theorem tl_of (n : Nat) : tl (num n) = numL n := tl_num n
theorem tl_space : tl (" " : Str) = [32] := by decide +kernel
theorem tl_line : tl ("\n" : Str) = [10] := by decide +kernel
def wordsOf (l : Nat) (row : List Nat) : List Str := num l :: (":" : Str) :: row.map num
def lineOf (l : Nat) (row : List Nat) : Str := Txt.join (" " : Str) (wordsOf l row)
def headOf (r : Nat) : Str := ("rates " : Str) ++ num r
def linesOf (ls : List Nat) (bs : List (List Nat)) : List Str := List.zipWith lineOf ls bs
def textOf (r : Nat) (ls : List Nat) (bs : List (List Nat)) : Str := Txt.join ("\n" : Str) (headOf r :: linesOf ls bs)
theorem joinL_mem {S : List Nat} {c : Nat} : ∀ {ps : List (List Nat)}, c ∈ joinL S ps → c ∈ S ∨ ∃ p ∈ ps, c ∈ p
  | [], h => by simp [joinL] at h
  | [p], h => .inr ⟨p, List.mem_singleton.mpr rfl, h⟩
  | p :: q :: r, h => by
    rcases List.mem_append.mp (show c ∈ p ++ (S ++ joinL S (q :: r)) from h) with h | h
    · exact .inr ⟨p, List.mem_cons_self, h⟩
    · rcases List.mem_append.mp h with h | h
      · exact .inl h
      · rcases joinL_mem h with h | ⟨z, hz, h⟩
        · exact .inl h
        · exact .inr ⟨z, List.mem_cons_of_mem _ hz, h⟩
theorem joinL_len {S : List Nat} : ∀ {ps : List (List Nat)} {k : Nat}, (∀ p ∈ ps, p.length ≤ k) → (joinL S ps).length ≤ ps.length * (k + S.length)
  | [], _, _ => by simp [joinL]
  | [p], k, h => by
    have := h p (List.mem_singleton.mpr rfl)
    show p.length ≤ 1 * (k + S.length)
    omega
  | p :: q :: r, k, h => by
    have h1 := h p List.mem_cons_self
    have h2 := joinL_len (S := S) (ps := q :: r) (k := k) fun z hz => h z (List.mem_cons_of_mem _ hz)
    show (p ++ (S ++ joinL S (q :: r))).length ≤ (p :: q :: r).length * (k + S.length)
    rw [List.length_append, List.length_append, show (p :: q :: r).length = (q :: r).length + 1 from rfl, Nat.succ_mul]
    omega
theorem joinL_snoc {S w : List Nat} : ∀ {ps : List (List Nat)}, ps ≠ [] → joinL S (ps ++ [w]) = joinL S ps ++ (S ++ w)
  | [], h => absurd rfl h
  | [p], _ => rfl
  | p :: q :: r, _ => by
    have ih := joinL_snoc (S := S) (w := w) (ps := q :: r) (by simp)
    show p ++ (S ++ joinL S ((q :: r) ++ [w])) = p ++ (S ++ joinL S (q :: r)) ++ (S ++ w)
    rw [ih]
    simp only [List.append_assoc]
theorem tl_joins (y : Str) (ps : List Str) : tl (Txt.join y ps) = joinL (tl y) (ps.map tl) := by rw [join_eq, tl_join]
theorem join_snoc {y w : Str} {ps : List Str} (h : ps ≠ []) : Txt.join y (ps ++ [w]) = Txt.join y ps ++ y ++ w := by
  refine ext_tl ?_
  rw [tl_joins, tl_append, tl_append, tl_joins, List.map_append, List.map_cons, List.map_nil, joinL_snoc (fun e => h (List.map_eq_nil_iff.mp e)), List.append_assoc]
/-! the words of a line -/
theorem words_free {c l : Nat} {row : List Nat} (h : c < 48) : ∀ w ∈ wordsOf l row, c ∉ tl w := by
  intro w hw
  unfold wordsOf at hw
  rcases List.mem_cons.mp hw with rfl | hw
  · rw [tl_of]
    exact numL_free (.inl h)
  · rcases List.mem_cons.mp hw with rfl | hw
    · rw [show tl (":" : Str) = [58] by decide +kernel]
      intro z
      have := List.mem_singleton.mp z
      omega
    · obtain ⟨b, _, rfl⟩ := List.mem_map.mp hw
      rw [tl_of]
      exact numL_free (.inl h)
theorem split_line (l : Nat) (row : List Nat) : Txt.split (lineOf l row) (" " : Str) = wordsOf l row :=
  split_join (s := 32) (S := []) tl_space (by decide +kernel) (by unfold wordsOf; simp) (words_free (by decide))
theorem head_join (r : Nat) : headOf r = Txt.join (" " : Str) [("rates" : Str), num r] := by
  refine ext_tl ?_
  unfold headOf
  rw [tl_append, tl_joins, tl_space]
  show tl ("rates " : Str) ++ tl (num r) = tl ("rates" : Str) ++ ([32] ++ tl (num r))
  rw [← List.append_assoc]
  rw [show tl ("rates " : Str) = tl ("rates" : Str) ++ [32] by decide +kernel]
theorem split_head (r : Nat) : Txt.split (headOf r) (" " : Str) = [("rates" : Str), num r] := by
  rw [head_join]
  refine split_join (s := 32) (S := []) tl_space (by decide +kernel) (by simp) fun p hp => ?_
  rcases List.mem_cons.mp hp with rfl | hp
  · decide +kernel
  · rw [List.mem_singleton.mp hp, tl_of]
    exact numL_free (.inl (by decide))
theorem split_text (r : Nat) (ls : List Nat) (bs : List (List Nat)) : Txt.split (textOf r ls bs) ("\n" : Str) = headOf r :: linesOf ls bs := by
  refine split_join (s := 10) (S := []) tl_line (by decide +kernel) (by simp) fun p hp => ?_
  rcases List.mem_cons.mp hp with rfl | hp
  · unfold headOf
    rw [tl_append, tl_of]
    intro z
    rcases List.mem_append.mp z with z | z
    · exact absurd z (by decide +kernel)
    · exact numL_free (.inl (by decide)) z
  · unfold linesOf at hp
    obtain ⟨i, hi, rfl⟩ := List.mem_iff_getElem.mp hp
    rw [List.getElem_zipWith]
    unfold lineOf
    rw [tl_joins, tl_space]
    intro z
    rcases joinL_mem z with z | ⟨w, hw, z⟩
    · exact absurd (List.mem_singleton.mp z) (by decide)
    · obtain ⟨v, hv, rfl⟩ := List.mem_map.mp hw
      exact words_free (by decide) v hv z
/-! numbers as texts -/
theorem num_len {n : Nat} (h : n < 10000) : (num n).length ≤ 4 := by
  rw [len_tl, tl_of]
  exact numL_len (by decide) h
theorem numL_head {n : Nat} : 1 ≤ n → ∃ c r, numL n = c :: r ∧ c ≠ 48 := by
  induction n using Nat.strongRecOn with
  | _ n ih =>
    intro h1
    by_cases h : n < 10
    · exact ⟨48 + n, [], numL_lt h, by omega⟩
    · obtain ⟨c, r, e, hc⟩ := ih (n / 10) (by omega) (by omega)
      exact ⟨c, r ++ [48 + n % 10], by rw [numL_step (by omega), e]; rfl, hc⟩
theorem numL_mono {n : Nat} : ∀ {m : Nat}, n ≤ m → (numL n).length ≤ (numL m).length := by
  induction n using Nat.strongRecOn with
  | _ n ih =>
    intro m h
    by_cases hm : m < 10
    · rw [numL_lt hm, numL_lt (by omega)]
      exact Nat.le_refl _
    · rw [numL_step (n := m) (by omega), List.length_append]
      by_cases hn : n < 10
      · rw [numL_lt hn]
        show 1 ≤ _ + 1
        omega
      · rw [numL_step (n := n) (by omega), List.length_append]
        have := @ih (n / 10) (by omega) (m / 10) (Nat.div_le_div_right h)
        simp only [List.length_singleton]
        omega
theorem num_ascii (n : Nat) : Txt.isascii (num n) = true := by
  unfold Txt.isascii
  rw [← Array.all_toList]
  rw [show (num n).cps.toList = numL n from tl_of n]
  rw [List.all_eq_true]
  intro c hc
  have := numL_digits n c hc
  exact decide_eq_true (by omega)
theorem dig_ok : ∀ c, c < 58 → 48 ≤ c → Unicode.isDigit c = true := by decide +kernel
theorem num_digit (n : Nat) : Txt.isdigit (num n) = true := by
  unfold Txt.isdigit
  rw [Bool.and_eq_true]
  constructor
  · refine decide_eq_true ?_
    rw [len_tl, tl_of]
    exact List.length_pos_iff.mpr (numL_ne n)
  · rw [← Array.all_toList]
    rw [show (num n).cps.toList = numL n from tl_of n]
    rw [List.all_eq_true]
    intro c hc
    have := numL_digits n c hc
    exact dig_ok c (by omega) (by omega)
theorem num_at {n : Nat} (h : 1 ≤ n) : ∃ c, atI (num n).cps.toList 0 = some c ∧ (V.str ⟨#[c]⟩) ≠ V.str ("0" : Str) := by
  obtain ⟨c, r, e, hc⟩ := numL_head h
  refine ⟨c, ?_, fun z => ?_⟩
  · rw [show (num n).cps.toList = numL n from tl_of n, e]
    exact atI_nat (xs := c :: r) (j := 0) (v := c) rfl
  · injection z with z
    have := congrArg tl z
    rw [show tl ("0" : Str) = [48] by decide +kernel] at this
    have e2 : ([c] : List Nat) = [48] := this
    injection e2 with e2
    exact hc e2
theorem num_int {n : Nat} (h : n < 10000) : intText? (num n) = some (n : Int) := int_num (Nat.le_trans (numL_len (k := 4) (by decide) h) (by decide))
theorem num_lens {n m : Nat} (h : n ≤ m) : (num n).length ≤ (num m).length := by
  rw [len_tl, len_tl, tl_of, tl_of]
  exact numL_mono h
/-! lengths -/
theorem line_len {l : Nat} {row : List Nat} (hl : l < 10000) (hr : ∀ b ∈ row, b < 10000) : (lineOf l row).length ≤ (row.length + 2) * 5 := by
  unfold lineOf
  rw [len_tl, tl_joins, tl_space]
  have := joinL_len (S := [32]) (ps := (wordsOf l row).map tl) (k := 4) fun p hp => by
    obtain ⟨w, hw, rfl⟩ := List.mem_map.mp hp
    rw [← len_tl]
    unfold wordsOf at hw
    rcases List.mem_cons.mp hw with rfl | hw
    · exact num_len hl
    · rcases List.mem_cons.mp hw with rfl | hw
      · decide +kernel
      · obtain ⟨b, hb, rfl⟩ := List.mem_map.mp hw
        exact num_len (hr b hb)
  rw [List.length_map] at this
  have e : (wordsOf l row).length = row.length + 2 := by unfold wordsOf; simp
  rw [e] at this
  exact this
end Rp

namespace Rp
open PySem PySem.Spec PyProof.Rows L2
/-! ### the law's call, the guards known -/
section
variable {P : Program} {w : World} {K : PySem.W.Frag} {mg mb : Str → Option Value} {CX : CXT} {k : Nat} {fa a : Addr} {fd : FuncData} {x : Str} {sp : Sp} {s : Shared} {vs : List Value} {ns : List Int}
/-- from one abstract heap that holds the script at most -/
theorem law_coreG {H : Hp} (inK : K.In s.heap) (gl : s.heap.Ns mainGlobals mg) (bn : s.heap.Ns builtinsNs mb) (boot : ∀ y : Str, y ≠ "__name__" → mb y = bootBuiltins y) (lim : s.heap.NoLimit) (gens : s.gens = #[])
    (at_ : s.heap.get? a = some { cls := .type "list", data := .seq vs.toArray }) (room : Room k callerA)
    (F : ∀ base : Heap, K.In base → base.Ns mainGlobals mg → FnG P w K mg base CX k fa fd [x] sp) (bind : ∀ (s : Shared) (u : Value), BindsTo s fd ⟨[u], []⟩ [(x, u)])
    (one : ∀ b, H b = none ∨ ∃ o xs, H b = some (.frz o (.lst xs))) (ok : HOk P w H s.heap) (alone : ∀ b, H b ≠ none → b = a) (apart : H a ≠ none → K.lookup a = none)
    (keeps : sp [.ref a] H (fun v _ => v = .bl true) fun _ _ _ => False) (noX : ∀ e s', CX [] H s (fun _ _ _ => False) e s' → False) :
    codeAny (model P w) callerA (.call (.ref fa) ⟨[.ref a], []⟩) (fun r s' => r = .ok (.ret (.bool true)) ∧ OldK s.heap s'.heap ∧ s'.os = s.os ∧ AllBare s'.gens) s := by
  have noDict : ∀ {b : Addr} {o : Obj} {es : Array DictEntry} {ep : Nat}, s.heap.get? b = some o → o.data = .dict es ep → H b = none := fun {b o es ep} e d => by
    by_cases q : H b = none
    · exact q
    · have z := alone b q
      subst z
      rw [at_] at e
      cases e
      cases d
  have ns' : ∀ {b : Addr} {m : Str → Option Value}, s.heap.Ns b m → (hidT s.heap H).Ns b m := fun {b m} ⟨o, es, ep, e, d, r⟩ => ⟨o, es, ep, hidT_get e (noDict e d), d, r⟩
  have inB : K.In (hidT s.heap H) := fun b o e => hidT_get (inK b o e) (by
    by_cases q : H b = none
    · exact q
    · have z := alone b q
      subst z
      rw [apart q] at e
      cases e)
  obtain ⟨mc, lim1, lim2⟩ := lim
  have md : Mod K mg (hidT s.heap H) := ⟨inB, ns' gl, ⟨mb, ns' bn, boot⟩, ⟨mc, ns' lim1, lim2⟩⟩
  have en : Env0 P w K mg (hidT s.heap H) callerA [] s H := ⟨rfl, md, fun b o e => of_hidT e, Nat.le_of_eq (hidT_size _ _), trivial, fun b z => absurd z List.not_mem_nil, ok, .of_eq gens⟩
  refine codeAny_mono ((F _ inB (ns' gl)).go callerA [] s H ⟨[.ref a], []⟩ [.ref a] [.ref a] _ _ rfl room en (bind s (.ref a)) (.cons rfl .nil) keeps) fun r s' hr => ?_
  rcases r with e | fl
  · exact (noX e s' hr).elim
  · cases fl with
    | ret u =>
      obtain ⟨v, H', os, bare, un, ok', rv, rfl⟩ := hr
      cases rv
      refine ⟨rfl, OldK.of_keep fun b o e => ?_, os, bare⟩
      rcases one b with q | ⟨ob, xs, q⟩
      · exact un.keep b o e q (fun z => by cases z) (fun z => by cases z)
      · have e1 := (ok b _ q).1
        have e2 := (ok' b _ (un.frzs b ob _ q)).1
        rw [e] at e1
        cases e1
        exact e2
    | next => exact hr.elim
    | brk => exact hr.elim
    | cont => exact hr.elim
theorem law_callG (inK : K.In s.heap) (gl : s.heap.Ns mainGlobals mg) (bn : s.heap.Ns builtinsNs mb) (boot : ∀ y : Str, y ≠ "__name__" → mb y = bootBuiltins y) (lim : s.heap.NoLimit) (gens : s.gens = #[])
    (at_ : s.heap.get? a = some { cls := .type "list", data := .seq vs.toArray }) (hin : IntsAre vs ns) (few : ns.length ≤ sizeLine) (room : Room k callerA)
    (F : ∀ base : Heap, K.In base → base.Ns mainGlobals mg → FnG P w K mg base CX k fa fd [x] sp) (bind : ∀ (s : Shared) (u : Value), BindsTo s fd ⟨[u], []⟩ [(x, u)])
    (keeps : ∀ H : Hp, Only H → SqL K H a (ns.map V.int) → sp [.ref a] H (fun v _ => v = .bl true) fun _ _ _ => False) (noX : ∀ H e s', CX [] H s (fun _ _ _ => False) e s' → False) :
    codeAny (model P w) callerA (.call (.ref fa) ⟨[.ref a], []⟩) (fun r s' => r = .ok (.ret (.bool true)) ∧ OldK s.heap s'.heap ∧ s'.os = s.os ∧ AllBare s'.gens) s := by
  have rel := vals_ints hin
  cases lk : K.lookup a with
  | some o =>
    have e := inK a o lk
    rw [at_] at e
    cases e
    refine law_coreG (H := fun _ => none) inK gl bn boot lim gens at_ room F bind (fun _ => .inl rfl) (fun b u z => by cases z) (fun b z => (z rfl).elim) (fun z => (z rfl).elim) (keeps _ (fun _ => .inl rfl) ?_) (noX _)
    exact .inr ⟨_, vs.toArray, _, lk, rfl, rfl, rfl, by rw [List.size_toArray, hin.length]; exact few, by simpa using rel⟩
  | none =>
    have here : (fun b => if b = a then some (HO.frz { cls := .type "list", data := .seq vs.toArray } (.lst (ns.map V.int))) else none) a = some (HO.frz { cls := .type "list", data := .seq vs.toArray } (.lst (ns.map V.int))) := if_pos rfl
    have only : ∀ b, (fun b => if b = a then some (HO.frz { cls := .type "list", data := .seq vs.toArray } (.lst (ns.map V.int))) else none) b = none ∨ ∃ o xs, (fun b => if b = a then some (HO.frz { cls := .type "list", data := .seq vs.toArray } (.lst (ns.map V.int))) else none) b = some (.frz o (.lst xs)) := fun b => by
      by_cases q : b = a
      · exact .inr ⟨_, _, if_pos q⟩
      · exact .inl (if_neg q)
    refine law_coreG inK gl bn boot lim gens at_ room F bind only (fun b u z => ?_) (fun b z => ?_) (fun _ => lk) (keeps _ only (.inl (.inr ⟨_, here⟩))) (noX _)
    · by_cases q : b = a
      · subst q
        have z' := here.symm.trans z
        cases z'
        exact ⟨at_, by rw [List.length_map]; exact few, vs, 0, rel, at_⟩
      · rw [if_neg q] at z
        cases z
    · by_cases q : b = a
      · exact q
      · exact (z (if_neg q)).elim
end
/-- the end of a row: the written part's facts, the law's def, its promise -/
theorem walkG {l : PySem.W.OpenLaw} {n k : Nat} {q : Program} {loose : List Str} {XP : (Str → Option Value) → Heap → Prop} {YP : World → Heap → Prop} {d : DefRec} {K : Params → PySem.W.Frag} {CX : World → CXT} {sp : PySem.W.Frag → Sp} {x : Str}
    (hn : l.most = some n) (hn2 : n ≤ sizeLine) (hdf : d.params.defaults = []) (room : Room k callerA) (hY : ∀ (w : World) (h : Heap), YP w h → (K w.params).In h)
    (F : ∀ (w : World) (mg : Str → Option Value) (fa : Addr) (h : Heap), (K w.params).In h → h.Ns mainGlobals mg → mg d.name = some (.ref fa) →
      ∃ fd : FuncData, (∀ (s : Shared) (u : Value), BindsTo s fd ⟨[u], []⟩ [(x, u)]) ∧ ∀ base : Heap, (K w.params).In base → base.Ns mainGlobals mg → FnG l.prog w (K w.params) mg base (CX w) k fa fd [x] (sp (K w.params)))
    (keeps : ∀ (K : PySem.W.Frag) (H : Hp) (a : Addr) (ns : List Int), ns.length ≤ n → Only H → SqL K H a (ns.map V.int) → sp K [.ref a] H (fun v _ => v = .bl true) fun _ _ _ => False)
    (noX : ∀ (w : World) (H : Hp) (s : Shared) (e : Value) (s' : Shared), CX w [] H s (fun _ _ _ => False) e s' → False) : PySem.W.WalkO q loose XP YP l.row.toRowW d [] (fun f vs => PySem.call f vs) := by
  refine Att.attach_call hn hdf fun w s0 s1 mg mb fa o pm cd doc a vs ns G Y _ _ _ hmg hobj hints hlen hg => ?_
  obtain ⟨fd, hb, hF⟩ := F w mg fa _ (hY w _ Y) G.T.g hmg
  exact law_callG (hY w _ Y) G.T.g G.T.b G.T.builtins G.T.nolimit hg hobj hints (Nat.le_trans hlen hn2) room hF hb (fun H only sq => keeps (K w.params) H a ns hlen only sq) fun H e s' => noX w H s1 e s'
/-! ### small data may be shown -/
structure Sm (n : Nat) (d : PyData) : Prop where
  ls : d.leavesShort 40 = true
  sh : d.showable = true
  nd : d.hasDict = false
  dp : d.depth ≤ n
  wt : d.weight ≤ 4 ^ n * 64
theorem Sm.shw {n : Nat} {d : PyData} (h : Sm n d) (hn : n ≤ 6) : Shw d := by
  refine ⟨h.sh, h.nd, by have := h.dp; omega, ?_⟩
  have q := PyData.shown_le 40 (by decide) d h.ls
  have w := h.wt
  have m : (4 : Nat) ^ n ≤ 4 ^ 6 := Nat.pow_le_pow_right (by decide) hn
  have e : sizeLine = 16777216 := rfl
  rw [e]
  have : (4 : Nat) ^ 6 = 4096 := by decide
  omega
end Rp

namespace Rp
open PySem PySem.Spec PyProof.Rows L2
/-- small plain data: how deep at most, how heavy at most -/
structure Sml (m n : Nat) (d : PyData) : Prop where
  cl : d.canLay0 = true
  dp : d.depth ≤ m
  wt : d.weight ≤ n
  ls : d.leavesShort 40 = true
  sh : d.showable = true
theorem Sml.shw {m n : Nat} {d : PyData} (h : Sml m n d) (hm : m ≤ 16) (hn : n ≤ 300000) : Shw d := by
  refine ⟨h.sh, PyData.hasDict_of_canLay d h.cl, Nat.le_trans h.dp hm, ?_⟩
  have q := PyData.shown_le 40 (by decide) d h.ls
  have w := h.wt
  have e : sizeLine = 16777216 := rfl
  rw [e]
  omega
theorem Sml.shaped {m n : Nat} {d : PyData} (h : Sml m n d) (hm : m ≤ 64) : SeqAt.shaped d = true := by
  unfold SeqAt.shaped
  rw [h.cl, decide_eq_true (Nat.le_trans h.dp hm)]
  rfl
theorem Sml.refl {m n : Nat} {d : PyData} (h : Sml m n d) : PyData.eqv d d = true := SeqAt.eqv_refl d h.cl
theorem Sml.mono {m m' n n' : Nat} {d : PyData} (h : Sml m n d) (hm : m ≤ m') (hn : n ≤ n') : Sml m' n' d := ⟨h.cl, Nat.le_trans h.dp hm, Nat.le_trans h.wt hn, h.ls, h.sh⟩
theorem log_lt {n k : Nat} (hk : 0 < k) (h : n < 2 ^ k) : n.log2 < k := by
  by_cases z : n = 0
  · rw [z]
    exact hk
  · exact (Nat.log2_lt z).mpr h
theorem Sml.int {i : Int} (h : i.natAbs < 2 ^ 30) : Sml 0 40 (.int i) := by
  have l := log_lt (by decide) h
  refine ⟨by simp only [PyData.canLay0], by simp only [PyData.depth]; exact Nat.le_refl _, ?_, ?_, by simpa only [PyData.showable] using decide_eq_true (Nat.lt_trans l (by decide))⟩
  · simp only [PyData.weight]
    split
    · exact Nat.zero_le _
    · omega
  · simp only [PyData.leavesShort, PyData.shown, decide_eq_true_eq, PySem.ofString_length]
    have q := int_text_length_le (a := i) (k := 30) (by decide) l
    omega
theorem Sml.bool {b : Bool} : Sml 0 0 (.bool b) := ⟨rfl, Nat.le_refl _, Nat.le_refl _, rfl, rfl⟩
theorem Sml.none : Sml 0 0 .none := ⟨rfl, Nat.le_refl _, Nat.le_refl _, rfl, rfl⟩
theorem Sml.str {x : Str} {n : Nat} (h : PyData.strOk x = true) (hn : x.cps.size ≤ n) : Sml 0 n (.str x) := by
  have c : (PyData.str x).canLay0 = true := by simpa only [PyData.canLay0] using h
  exact ⟨c, by simp only [PyData.depth]; exact Nat.le_refl _, by simpa only [PyData.weight] using hn, PyData.leavesShort_of_canLay0 40 _ c (by simp only [PyData.intsShort]), by simp only [PyData.showable]⟩
theorem sml_all {m n : Nat} : ∀ {xs : List PyData}, (∀ x ∈ xs, Sml m n x) → PyData.canLayAll0 xs = true ∧ PyData.depthAll xs ≤ m ∧ PyData.weightAll xs ≤ xs.length * (n + 1) ∧ PyData.leavesShortAll 40 xs = true ∧ PyData.showableAll xs = true
  | [], _ => ⟨rfl, Nat.zero_le _, by simp [PyData.weightAll], rfl, rfl⟩
  | x :: xs, h => by
    obtain ⟨a, b, c, d, e⟩ := sml_all (xs := xs) fun y hy => h y (List.mem_cons_of_mem _ hy)
    obtain ⟨a', b', c', d', e'⟩ := h x List.mem_cons_self
    refine ⟨by simp only [PyData.canLayAll0, a, a', Bool.and_self], by simp only [PyData.depthAll]; omega, ?_, by simp only [PyData.leavesShortAll, d, d', Bool.and_self], by simp only [PyData.showableAll, e, e', Bool.and_self]⟩
    simp only [PyData.weightAll, List.length_cons]
    have : (xs.length + 1) * (n + 1) = xs.length * (n + 1) + (n + 1) := Nat.succ_mul _ _
    omega
theorem Sml.tup {m n k : Nat} {xs : List PyData} (h : ∀ x ∈ xs, Sml m n x) (hk : xs.length ≤ k) : Sml (m + 1) (k * (n + 1)) (.tuple xs) := by
  obtain ⟨a, b, c, d, e⟩ := sml_all h
  refine ⟨by simpa only [PyData.canLay0] using a, by simp only [PyData.depth]; omega, ?_, by simpa only [PyData.leavesShort] using d, by simpa only [PyData.showable] using e⟩
  simp only [PyData.weight]
  exact Nat.le_trans c (Nat.mul_le_mul_right _ hk)
theorem Sml.lst {m n k : Nat} {xs : List PyData} (h : ∀ x ∈ xs, Sml m n x) (hk : xs.length ≤ k) : Sml (m + 1) (k * (n + 1)) (.list xs) := by
  obtain ⟨a, b, c, d, e⟩ := sml_all h
  refine ⟨by simpa only [PyData.canLay0] using a, by simp only [PyData.depth]; omega, ?_, by simpa only [PyData.leavesShort] using d, by simpa only [PyData.showable] using e⟩
  simp only [PyData.weight]
  exact Nat.le_trans c (Nat.mul_le_mul_right _ hk)
/-! ### a talk's numbers as data -/
def dInts (ns : List Int) : PyData := .tuple (ns.map .int)
def dRows (bs : List (List Int)) : PyData := .tuple (bs.map dInts)
def dTalk (ls : List Int) (bs : List (List Int)) : PyData := .tuple [dInts ls, dRows bs]
/-- small numbers -/
def Low (ns : List Int) : Prop := ns.length ≤ 60 ∧ ∀ n ∈ ns, n.natAbs < 2 ^ 30
theorem Low.sml {ns : List Int} (h : Low ns) : Sml 1 2460 (dInts ns) :=
  (Sml.tup (k := 60) (fun x hx => by obtain ⟨n, hn, rfl⟩ := List.mem_map.mp hx; exact Sml.int (h.2 n hn)) (by rw [List.length_map]; exact h.1)).mono (Nat.le_refl _) (by decide)
def LowRows (bs : List (List Int)) : Prop := bs.length ≤ 60 ∧ ∀ row ∈ bs, Low row
theorem LowRows.sml {bs : List (List Int)} (h : LowRows bs) : Sml 2 147660 (dRows bs) :=
  (Sml.tup (k := 60) (fun x hx => by obtain ⟨n, hn, rfl⟩ := List.mem_map.mp hx; exact (h.2 n hn).sml) (by rw [List.length_map]; exact h.1)).mono (Nat.le_refl _) (by decide)
theorem talk_sml {ls : List Int} {bs : List (List Int)} (h1 : Low ls) (h2 : LowRows bs) : Sml 3 295322 (dTalk ls bs) :=
  (Sml.tup (k := 2) (m := 2) (n := 147660) (fun x hx => by
    rcases List.mem_cons.mp hx with rfl | hx
    · exact h1.sml.mono (by decide) (by decide)
    · rw [List.mem_singleton.mp hx]; exact h2.sml) (Nat.le_refl _)).mono (Nat.le_refl _) (by decide)
end Rp

namespace Rp
open PySem PySem.Spec PyProof.Rows L2
/-! ### data at an address -/
theorem dp_ints_all {K : PySem.W.Frag} {H : Hp} : ∀ ns : List Int, DpAll K H (ns.map V.int) (ns.map PyData.int)
  | [] => .nil
  | n :: ns => .cons (.int n) (dp_ints_all ns)
theorem dp_ints {K : PySem.W.Frag} {H : Hp} {a : Addr} {ns : List Int} (h : H a = some (.tup (ns.map V.int))) : Dp K H (.ref a) (dInts ns) := .tup (SqT.of h) (dp_ints_all ns)
theorem dp_rows_all {K : PySem.W.Frag} {H : Hp} : ∀ {qs : List Addr} {bs : List (List Int)}, RowsAt H qs bs → DpAll K H (qs.map V.ref) (bs.map dInts)
  | _, _, .nil => .nil
  | _, _, .cons h t => .cons (dp_ints h) (dp_rows_all t)
theorem dp_rows {K : PySem.W.Frag} {H : Hp} {b : Addr} {qs : List Addr} {bs : List (List Int)} (h : H b = some (.tup (qs.map V.ref))) (r : RowsAt H qs bs) : Dp K H (.ref b) (dRows bs) := .tup (SqT.of h) (dp_rows_all r)
theorem TalkRow.dp {K : PySem.W.Frag} {H : Hp} {p : Addr} {ls : List Int} {bs : List (List Int)} (h : TalkRow H p ls bs) : Dp K H (.ref p) (dTalk ls bs) :=
  let ⟨_, _, _, h1, h2, h3, h4⟩ := h
  .tup (SqT.of h1) (.cons (dp_ints h2) (.cons (dp_rows h3 h4) .nil))
/-! ### parts -/
def part {α : Type} (i j : Nat) (l : List α) : List α := (l.drop i).take (j + 1 - i)
theorem RowsAt.drop {H : Hp} : ∀ (n : Nat) {qs : List Addr} {bs : List (List Int)}, RowsAt H qs bs → RowsAt H (qs.drop n) (bs.drop n)
  | 0, _, _, h => h
  | _ + 1, _, _, .nil => .nil
  | n + 1, _, _, .cons _ t => RowsAt.drop n t
theorem RowsAt.take {H : Hp} : ∀ (n : Nat) {qs : List Addr} {bs : List (List Int)}, RowsAt H qs bs → RowsAt H (qs.take n) (bs.take n)
  | 0, _, _, _ => .nil
  | _ + 1, _, _, .nil => .nil
  | n + 1, _, _, .cons h t => .cons h (RowsAt.take n t)
theorem RowsAt.part {H : Hp} {i j : Nat} {qs : List Addr} {bs : List (List Int)} (h : RowsAt H qs bs) : RowsAt H (Rp.part i j qs) (Rp.part i j bs) := (h.drop i).take _
theorem RowsAt.append {H : Hp} : ∀ {qs qs' : List Addr} {bs bs' : List (List Int)}, RowsAt H qs bs → RowsAt H qs' bs' → RowsAt H (qs ++ qs') (bs ++ bs')
  | _, _, _, _, .nil, h => h
  | _, _, _, _, .cons a t, h => .cons a (RowsAt.append t h)
theorem cut_map {α : Type} (f : α → V) (l : List α) (i j : Nat) (hj : j < l.length) (hi : i ≤ j) : cutV (l.map f) (some (i : Int)) (some ((j : Int) + 1)) = (part i j l).map f := by
  have e : ((j : Int) + 1) = ((j + 1 : Nat) : Int) := by omega
  unfold cutV part
  rw [e, HT.sIx_nat, HT.sIx_nat, List.length_map, ← List.map_drop, ← List.map_take, show min i l.length = i by omega, show min (j + 1) l.length = j + 1 by omega]
theorem Same.upd {H : Hp} {p : Addr} {o : HO} (h : H p = none) : Same H (upd H p o) := fun b u e => by rw [upd_ne (ne_of_none e h)]; exact e
/-- a slice of a tuple that is tracked: some tuple of these items -/
theorem sl_by {K : PySem.W.Frag} {H : Hp} {a : Addr} {xs : List V} {lo hi : Option Int} {Q : VK} (h : H a = some (.tup xs)) (k : ∀ p H', Same H H' → H' p = some (.tup (cutV xs lo hi)) → Q (.ref p) H') : rSlA K (.ref a) lo hi H Q := by
  refine ⟨a, xs, rfl, SqT.of h, fun w => k a H (Same.refl H) ?_, fun _ p hp => k p _ (Same.upd hp) upd_same⟩
  have e : cutV xs lo hi = xs := by
    unfold cutV
    rw [w.1, w.2, Nat.sub_zero, List.drop_zero, List.take_length]
  rw [e]
  exact h
/-- both, one behind the other -/
theorem cat_by {K : PySem.W.Frag} {H : Hp} {a b : Addr} {xs ys : List V} {Q : VK} (h : H a = some (.tup xs)) (h' : H b = some (.tup ys)) (hz : xs.length + ys.length ≤ sizeLine) (k : ∀ p H', Same H H' → H' p = some (.tup (xs ++ ys)) → Q (.ref p) H') : rCatA K (.ref a) (.ref b) H Q := by
  refine ⟨a, b, xs, ys, rfl, rfl, SqT.of h, SqT.of h', hz, fun e => k b H (Same.refl H) ?_, fun _ e => k a H (Same.refl H) ?_, fun _ _ p hp => k p _ (Same.upd hp) upd_same⟩
  · rw [e]; exact h'
  · rw [e, List.append_nil]; exact h
theorem TalkRow.same {H H' : Hp} {p : Addr} {ls : List Int} {bs : List (List Int)} (h : TalkRow H p ls bs) (s : Same H H') : TalkRow H' p ls bs := h.imp fun _ _ e => s _ _ e

/-! ### the class -/
/-- a Talk of these numbers at x -/
def TalkAt (C : Addr) (H : Hp) (x : Addr) (ls : List Int) (bs : List (List Int)) : Prop :=
  ∃ dx a b qs, H x = some (.ins C dx [("lengths", .ref a), ("sizes", .ref b)]) ∧ H a = some (.tup (ls.map V.int)) ∧ H b = some (.tup (qs.map V.ref)) ∧ RowsAt H qs bs
theorem TalkAt.same {C : Addr} {H H' : Hp} {x : Addr} {ls : List Int} {bs : List (List Int)} (h : TalkAt C H x ls bs) (s : Same H H') : TalkAt C H' x ls bs :=
  let ⟨dx, a, b, qs, h1, h2, h3, h4⟩ := h
  ⟨dx, a, b, qs, s _ _ h1, s _ _ h2, s _ _ h3, h4.imp fun _ _ e => s _ _ e⟩
structure TkB (K : PySem.W.Frag) (C fI : Addr) : Prop where
  cl : Cls K C
  make : Mk K C fI
  nl : NoAttr K C "lengths"
  ns : NoAttr K C "sizes"
  ca : PySem.W.findIn K (.ref C) "__class__" = some (some (.builtin "object.__class__"))
  cn : PySem.W.specialIn K (.builtin "object.__class__") "__get__" = some (some (.builtin "getset_descriptor.__get__"))
  ct : PySem.W.takesIn K (.builtin "object.__class__") = some true
  cm : PySem.W.mroIn K C (.type "object") = some true
theorem TkB.ty {K : PySem.W.Frag} {C fI : Addr} (T : TkB K C fI) {H : Hp} {x dx : Addr} {fs : List (Str × V)} (h : H x = some (.ins C dx fs)) : TyX K H (.ref x) (.ref C) := .base (.ins h T.cl T.ca T.cn T.ct T.cm)
theorem kit_self {K : PySem.W.Frag} {C : Addr} : PySem.W.kitOne K (.ref C) (.ref C) = some true := by
  unfold PySem.W.kitOne
  rw [if_pos (beq_self_eq_true _)]
abbrev sInit : Stmt := inClass (topS 11) 0
abbrev sEq : Stmt := inClass (topS 11) 2
abbrev sMany : Stmt := inClass (topS 11) 5
theorem scInit : FnScope ["self", "lengths", "sizes"] ["self", "lengths", "sizes"] (defScope sInit) := ⟨rfl, rfl, rfl, by decide +kernel, rfl, by decide +kernel, by decide +kernel⟩
theorem scEq : FnScope ["self", "other"] ["self", "other"] (defScope sEq) := ⟨rfl, rfl, rfl, by decide +kernel, rfl, by decide +kernel, by decide +kernel⟩
theorem scMany : FnScope ["self"] ["self"] (defScope sMany) := ⟨rfl, rfl, rfl, by decide +kernel, rfl, by decide +kernel, by decide +kernel⟩
/-- a new Talk's fields -/
def spInit (C : Addr) : Sp := fun vs H Q _ => ∃ x dx v1 v2, vs = [.ref x, v1, v2] ∧ H x = some (.ins C dx []) ∧
  ∀ H', (∀ b o, b ≠ x → H b = some o → H' b = some o) → H' x = some (.ins C dx [("lengths", v1), ("sizes", v2)]) → Q .non H'
def spMany (C : Addr) : Sp := fun vs H Q _ => ∃ x ls row bs, vs = [.ref x] ∧ TalkAt C H x ls (row :: bs) ∧ Q (.int (row.length : Nat)) H
/-- what == is asked of -/
def EqT (C : Addr) : Addr → Addr → Hp → Prop := fun a b H => ∃ ls bs, TalkAt C H a ls bs ∧ TalkAt C H b ls bs ∧ Low ls ∧ LowRows bs
/-- a new Talk, and all that stood -/
theorem made_talk {C x dx : Addr} {H : Hp} {v1 v2 : V} {R : VK} {E : XK} (nx : H x = none) (ndx : H dx = none) (ne : dx ≠ x) (k : ∀ H', Same H H' → (∃ dx, H' x = some (.ins C dx [("lengths", v1), ("sizes", v2)])) → R .non H') :
    spInit C [.ref x, v1, v2] (upd (upd H dx (.own x)) x (.ins C dx [])) R E :=
  ⟨x, dx, v1, v2, rfl, upd_same, fun H' kp hx => k H' (fun b o e => kp b o (ne_of_none e nx) (by rw [upd_ne (ne_of_none e nx), upd_ne (ne_of_none e ndx)]; exact e)) ⟨dx, hx⟩⟩
section
variable {P : Program} {w : World} {K : PySem.W.Frag} {mg : Str → Option Value} {base : Heap} {C fI fE fM fC fJ : Addr} {fdI : FuncData}
theorem ok_init {fd : FuncData} (F : Fun K "__init__" "Talk.__init__" sInit fI fd) (T : TkB K C fI) : FnOk P w K mg base CX0 1 fI fd ["self", "lengths", "sizes"] (spInit C) := by
  refine F.ok scInit (fun vs H Q E h => ?_) (fun cdv A outer s H vs Q E hr h => ?_)
  · obtain ⟨_, _, _, _, rfl, _⟩ := h
    rfl
  · have nd := scInit.nd
    refine ⟨_, pss_cons (ps_fld (pv 0) (pv 1) rfl)
    (pss_one (ps_fld (pv 0) (pv 2) rfl)), ?_⟩
    obtain ⟨x, dx, v1, v2, rfl, hx, k⟩ := h
    refine ⟨_, rfl, _, rfl, x, C, dx, _, rfl, hx, T.cl, T.nl, (by show 0 < 1000; decide), ?_⟩
    refine ⟨_, rfl, _, rfl, x, C, dx, _, rfl, upd_same, T.cl, T.ns, (by show 1 < 1000; decide), ?_⟩
    refine k _ (fun b o n e => ?_) ?_
    · rw [upd_ne n, upd_ne n]; exact e
    · rw [upd_same]; rfl
theorem ok_many {fd : FuncData} (F : Fun K "many_rates" "Talk.many_rates" sMany fM fd) (T : TkB K C fI) (B : Bi mg) : FnOk P w K mg base CX0 1 fM fd ["self"] (spMany C) := by
  refine F.ok scMany (fun vs H Q E h => ?_) (fun cdv A outer s H vs Q E hr h => ?_)
  · obtain ⟨_, _, _, _, rfl, _⟩ := h
    rfl
  · refine ⟨_, pss_one (ps_ret (pe_callB call_len_seq (by rfl) B.len PySem.boot_len (pa_cons (pe_ix ix_tup (pe_fld (pv 0) rfl) (pe_int) (fun _ _ => rfl)) pa_nil))), ?_⟩
    obtain ⟨x, ls, row, bs, rfl, ⟨dx, a, b, qs, h1, h2, h3, h4⟩, q⟩ := h
    cases h4 with
    | @cons q0 _ qs' _ hq ht =>
      refine ⟨_, rfl, x, C, dx, _, _, rfl, h1, T.cl, T.ns, rfl, b, _, 0, _, rfl, rfl, SqT.of h3, at_of (j := 0) rfl rfl, ?_⟩
      refine ⟨q0, _, rfl, .inr (SqT.of hq), ?_⟩
      rw [List.length_map]
      exact q
theorem ok_eq {fd : FuncData} (F : Fun K "__eq__" "Talk.__eq__" sEq fE fd) (T : TkB K C fI) (mC : mg "Talk" = some (.ref C)) (mI : mg "isinstance" = none) : FnOk P w K mg base CX0 1 fE fd ["self", "other"] (spEq (EqT C)) := by
  refine F.ok scEq (fun vs H Q E h => ?_) (fun cdv A outer s H vs Q E hr h => ?_)
  · obtain ⟨_, _, rfl, _⟩ := h
    rfl
  · refine ⟨_, pss_one (ps_ret (pe_and (pe_callB call_isi (by rfl) mI (by decide +kernel) (pa_cons (pv 1) (pa_cons (pe_glob (v := .ref C) (by rfl) mC rfl) pa_nil))) (pe_and (pe_cmpR (op_eqD hr.units) (pe_fld (pv 0) rfl) (pe_fld (pv 1) rfl) (nomark _)) (pe_one (pe_cmpR (op_eqD hr.units) (pe_fld (pv 0) rfl) (pe_fld (pv 1) rfl) (nomark _)))))), ?_⟩
    obtain ⟨x, y, rfl, ⟨ls, bs, ⟨dx, a, b, qs, h1, h2, h3, h4⟩, ⟨dy, a', b', qs', g1, g2, g3, g4⟩, lo, lor⟩, q⟩ := h
    refine ⟨_, rfl, _, _, _, _, true, rfl, .own C, T.ty g1, kit_self, true, rfl, iteT ?_⟩
    refine ⟨_, rfl, x, C, dx, _, _, rfl, h1, T.cl, T.nl, rfl, _, rfl, y, C, dy, _, _, rfl, g1, T.cl, T.nl, rfl, _, _, dp_ints h2, dp_ints g2, lo.sml.shaped (by decide), lo.sml.shaped (by decide), _, rfl, ?_⟩
    rw [lo.sml.refl]
    refine iteT ?_
    refine ⟨_, rfl, x, C, dx, _, _, rfl, h1, T.cl, T.ns, rfl, _, rfl, y, C, dy, _, _, rfl, g1, T.cl, T.ns, rfl, _, _, dp_rows h3 h4, dp_rows g3 g4, lor.sml.shaped (by decide), lor.sml.shaped (by decide), ?_⟩
    rw [lor.sml.refl]
    exact q H Ext.rfl'
end
end Rp

namespace Rp
open PySem PySem.Spec PyProof.Rows L2
/-- o.m(e, ..) where what it raises is wished for at the slots as they stand -/
def tMethW (C : Addr) (m : Str) (sp : Sp) (E : L2.St → XK) (ta : TE) (t : TA) : TE := fun σ H Q => ta σ H fun x H1 => ∃ a dx fs, x = .ref a ∧ H1 a = some (.ins C dx fs) ∧ fs.lookup m = none ∧ t σ H1 fun vs H2 => sp (x :: vs) H2 Q (E σ)
theorem pe_methW {X : Cx} {CX : CXT} {k : Nat} {f C : Addr} {fd : FuncData} {ps : List Str} {sp : Sp} {E : L2.St → XK} {m : Str} {pos apos : Pos} {e o : Expr} {es : List Expr} {ta : TE} {t : TA} {pl : Sem Bool}
    (he : PE X o ta) (c : Cls X.K C) (hm : Meth X.K C m f) (F : FnOk X.prog X.w X.K X.mg X.base CX k f fd ps sp) (room : Room k X.A) (hb : L2.Binds X.K fd ps []) (hx : ∀ σ, PassesAt CX X σ (E σ)) (ha : PA X (e :: es) t)
    (hst : starEach (e :: es) X.env = (false, eval e X.env) :: starEach es X.env := by rfl) (hpl : (backTo pos (starEach es X.env)).any (·.1) = false := by rfl)
    (tree : eval (.Call (.Attribute o m apos) (e :: es) [] pos) X.env = (eval o X.env >>= fun ov => standAt apos.atName >>= fun _ => holding [ov] (getMethod ov m pl) >>= fun fx => callWith pos fx.1 fx.2 (backTo pos (starEach (e :: es) X.env)) (backToKw pos (keywordEach [] X.env))) := by rfl) :
    PE X (.Call (.Attribute o m apos) (e :: es) [] pos) (tMethW C m sp E ta t) :=
  ⟨fun pins s σ H Q I h => PySem.W.methodCall_KW (pl := pl) (thn (he.run pins s σ H _ I h) fun u s1 ⟨x, H1, I1, rx, a, dx, fs, ex, ea, l, q⟩ => by
    cases ex
    cases rx
    exact getmeth_ok I1 ea c hm l (PySem.W.callWith_K (first := [.ref a]) (h₀ := X.base) I.ok.mod.kin hm.kp (thn (ha.run pos pins s1 σ H1 _ I1 q) fun us s2 ⟨vs, H2, I2, r, q2⟩ =>
      ⟨I2.kIn, run_fnS (us := .ref a :: us) (vs := .ref a :: vs) F room hb (hx σ) I2 (.cons rfl r) q2⟩) hst hpl)) tree⟩
/-! ### isinstance of a caught error that has fields -/
section
variable {X : Cx} {a : Addr} {cls : Value} {d : Option Addr} {oe : Obj} {pn : List (Addr × Obj)}
/-- isinstance(e, c), e the error that the suite holds at a, of the class cls, its dict d -/
def rIsEd (K : PySem.W.Frag) (a : Addr) (cls : Value) (d : Option Addr) : List V → Hp → VK → Prop := fun xs H Q => ∃ (D dd : Addr) (c : V) (cv : Value) (b : Bool) (fs : List (Str × V)), cls = .ref D ∧ d = some dd ∧ ExcC K D ∧ xs = [.ref a, c] ∧ ClsV c cv ∧ H dd = some (.xd fs) ∧ PySem.W.kitOne K (.ref D) cv = some b ∧ Q (.bl b) H
/-- isinstance(e, (c, ..)) -/
def rIsEdT (K : PySem.W.Frag) (a : Addr) (cls : Value) (d : Option Addr) : List V → Hp → VK → Prop := fun xs H Q => ∃ (D dd tp : Addr) (cs : List V) (us : List Value) (b : Bool) (fs : List (Str × V)), cls = .ref D ∧ d = some dd ∧ ExcC K D ∧ xs = [.ref a, .ref tp] ∧ H tp = some (.tup cs) ∧ Paired ClsV cs us ∧ H dd = some (.xd fs) ∧ PySem.W.kitAny K (.ref D) us = some b ∧ Q (.bl b) H
theorem err_inst {pins : List (Addr × Obj)} {σ : L2.St} {H : Hp} {s : Shared} {D dd : Addr} {fs : List (Str × V)} (I : Inv (X.suite a ((a, oe) :: pn)) pins σ H s) (hz : Zc (.ref D) (some dd) oe) (hf : ∃ vs, oe.data = .fields vs) (hd : H dd = some (.xd fs)) : ∃ od, PySem.W.InstAt s.heap a oe D (some od) := by
  obtain ⟨here, _⟩ := I.pin (a, oe) (List.mem_append.mpr (.inl List.mem_cons_self))
  obtain ⟨vs, hv⟩ := hf
  obtain ⟨mA, ⟨od, _, _, at_, _⟩, _⟩ := (show ObjOk X.prog X.w H s.heap dd (.xd fs) from I.hok dd _ hd)
  refine ⟨od, here, hz.1, ?_, ?_⟩
  · unfold PySem.W.notCls
    rw [hv] <;> rfl
  · rw [hz.2]
    exact at_
theorem exc_kit {K : PySem.W.Frag} {D : Addr} {od : Option Obj} (C : ExcC K D) : PySem.W.KitX K (.ref a) (.ref D) (fun h => PySem.W.InstAt h a oe D od) := by
  obtain ⟨cd, hc, _⟩ := PySem.W.any_some C.hd
  exact PySem.W.kitx_exc (by rw [hc]; rfl) C.hg C.hk C.hs C.ha C.hn C.ht C.hm
theorem call_isEd (hz : Zc cls d oe) (hf : ∃ vs, oe.data = .fields vs) : CallR (X.suite a ((a, oe) :: pn)) (.builtin "isinstance") (rIsEd X.K a cls d) := by
  intro pins s σ H xs us Q I r h
  obtain ⟨D, dd, c, cv, b, fs, rfl, rfl, C, rfl, hcv, hd, e, q⟩ := h
  obtain ⟨od, J⟩ := err_inst I hz hf hd
  cases r with
  | cons rx rr =>
    cases rr with
    | cons rt rr =>
      cases rr
      cases rx
      have ec := hcv.eq rt
      subst ec
      exact PySem.W.kia_one (exc_kit C) I.kIn J e (fun z => nomatch z) fun tk => ⟨.bl b, H, I.tok tk, rfl, q⟩
theorem call_isEdT (hz : Zc cls d oe) (hf : ∃ vs, oe.data = .fields vs) : CallR (X.suite a ((a, oe) :: pn)) (.builtin "isinstance") (rIsEdT X.K a cls d) := by
  intro pins s σ H xs us Q I r h
  obtain ⟨D, dd, tp, cs, ws, b, fs, rfl, rfl, C, rfl, ht, hcs, hd, e, q⟩ := h
  obtain ⟨od, J⟩ := err_inst I hz hf hd
  cases r with
  | cons rx rr =>
    cases rr with
    | cons rt rr =>
      cases rr
      cases rx
      cases rt
      obtain ⟨_, its, rv, o, o1, o2, n, o3⟩ := (show ObjOk X.prog X.w H s.heap tp (.tup cs) from I.hok tp _ ht)
      have es := ClsV.all hcs rv
      subst es
      cases o
      simp only at o2 o3
      subst o2 o3
      exact PySem.W.kia_tup (exc_kit C) I.kIn J o1 e (fun z => nomatch z) fun tk => ⟨.bl b, H, I.tok tk, rfl, q⟩
end
/-! ### data stays where all that was tracked stays -/
theorem SqL.same {K : PySem.W.Frag} {H H' : Hp} {a : Addr} {xs : List V} (h : SqL K H a xs) (s : Same H H') : SqL K H' a xs := Same.seq s h
theorem SqT.same {K : PySem.W.Frag} {H H' : Hp} {a : Addr} {xs : List V} (h : SqT K H a xs) (s : Same H H') : SqT K H' a xs := by
  rcases h with (h | ⟨o, h⟩) | h
  · exact .inl (.inl (s _ _ h))
  · exact .inl (.inr ⟨o, s _ _ h⟩)
  · exact .inr h
mutual
theorem dp_same {K : PySem.W.Frag} {H H' : Hp} (s : Same H H') : ∀ (d : PyData) (v : V), Dp K H v d → Dp K H' v d
  | .none, _, h => by cases h; exact .non
  | .bool b, _, h => by cases h; exact .bl b
  | .int i, _, h => by cases h; exact .int i
  | .str x, _, h => by cases h; exact .str x
  | .list ds, _, h => by
    cases h with
    | lst q a => exact .lst (SqL.same q s) (dp_same_all s ds _ a)
  | .tuple ds, _, h => by
    cases h with
    | tup q a => exact .tup (SqT.same q s) (dp_same_all s ds _ a)
  | .dict _, _, h => by cases h
theorem dp_same_all {K : PySem.W.Frag} {H H' : Hp} (s : Same H H') : ∀ (ds : List PyData) (vs : List V), DpAll K H vs ds → DpAll K H' vs ds
  | [], _, h => by cases h; exact .nil
  | d :: ds, _, h => by
    cases h with
    | cons a b => exact .cons (dp_same s d _ a) (dp_same_all s ds _ b)
end
end Rp

namespace Rp
open PySem PySem.Spec PyProof.Rows L2
abbrev sLen : Stmt := inClass (topS 11) 1
theorem scLen : FnScope ["self"] ["self"] (defScope sLen) := ⟨rfl, rfl, rfl, by decide +kernel, rfl, by decide +kernel, by decide +kernel⟩
def natI (ns : List Nat) : List Int := ns.map fun n : Nat => (n : Int)
theorem natI_sum : ∀ ns : List Nat, (natI ns).sum = (ns.sum : Nat)
  | [] => rfl
  | n :: ns => by
    have ih := natI_sum ns
    unfold natI at *
    rw [List.map_cons, List.sum_cons, List.sum_cons, ih]
    omega
theorem natI_len (ns : List Nat) : (natI ns).length = ns.length := by unfold natI; rw [List.length_map]
theorem natI_get {ns : List Nat} {i : Nat} {l : Nat} (h : ns[i]? = some l) : ((natI ns).map V.int)[i]? = some (.int l) := by
  unfold natI
  rw [List.getElem?_map, List.getElem?_map, h]
  rfl
theorem nat_of {k : Int} {ls : List Int} (h : ∀ l ∈ ls, 1 ≤ l ∧ l ≤ k) : ∃ ns : List Nat, ls = natI ns ∧ ∀ n ∈ ns, 1 ≤ n ∧ (n : Int) ≤ k := by
  induction ls with
  | nil => exact ⟨[], rfl, fun _ z => nomatch z⟩
  | cons l ls ih =>
    obtain ⟨ns, e1, e3⟩ := ih fun x hx => h x (List.mem_cons_of_mem _ hx)
    obtain ⟨h1, h2⟩ := h l List.mem_cons_self
    refine ⟨l.toNat :: ns, ?_, fun n hn => ?_⟩
    · rw [e1]
      show l :: natI ns = ((l.toNat : Nat) : Int) :: natI ns
      rw [show ((l.toNat : Nat) : Int) = l by omega]
    · rcases List.mem_cons.mp hn with rfl | hn
      · omega
      · exact e3 n hn
/-- a talk's numbers -/
structure TxOk (r : Nat) (ns : List Nat) (bss : List (List Nat)) : Prop where
  same : ns.length = bss.length
  pos : 1 ≤ ns.length
  most : ns.length ≤ 12
  r1 : 1 ≤ r
  r4 : r ≤ 4
  ns : ∀ n ∈ ns, 1 ≤ n ∧ n ≤ 20
  bs : ∀ row ∈ bss, row.length = r ∧ ∀ b ∈ row, 1 ≤ b ∧ b ≤ 1000
def natR (bss : List (List Nat)) : List (List Int) := bss.map natI
theorem rows_of {r : Nat} {bs : List (List Int)} (h : ∀ row ∈ bs, RowOk r row) : ∃ bss : List (List Nat), bs = natR bss ∧ ∀ row ∈ bss, row.length = r ∧ ∀ b ∈ row, 1 ≤ b ∧ b ≤ 1000 := by
  induction bs with
  | nil => exact ⟨[], rfl, fun _ z => nomatch z⟩
  | cons row bs ih =>
    obtain ⟨bss, e1, e2⟩ := ih fun x hx => h x (List.mem_cons_of_mem _ hx)
    obtain ⟨h1, h2⟩ := h row List.mem_cons_self
    obtain ⟨ns, e3, e4⟩ := nat_of h2
    refine ⟨ns :: bss, by rw [e1, e3]; rfl, fun x hx => ?_⟩
    rcases List.mem_cons.mp hx with rfl | hx
    · refine ⟨by rw [← h1, e3, natI_len], fun b hb => ?_⟩
      have := e4 b hb
      omega
    · exact e2 x hx
theorem Fine.tx {ls : List Int} {bs : List (List Int)} (f : Fine ls bs) : ∃ r ns bss, ls = natI ns ∧ bs = natR bss ∧ TxOk r ns bss := by
  obtain ⟨r, h1, h4, hb⟩ := f.bs
  obtain ⟨ns, e1, e2⟩ := nat_of f.ls
  obtain ⟨bss, e3, e4⟩ := rows_of hb
  have s := f.same
  have p := f.pos
  have m := f.most
  rw [e1, natI_len] at s p m
  rw [e3] at s
  unfold natR at s
  rw [List.length_map] at s
  exact ⟨r, ns, bss, e1, e3, s, p, m, h1, h4, fun n hn => by have := e2 n hn; omega, e4⟩
def spLen (C : Addr) : Sp := fun vs H Q _ => ∃ x ns bs, vs = [.ref x] ∧ TalkAt C H x (natI ns) bs ∧ ns.sum < 2 ^ 62 ∧ ∀ H', Same H H' → Q (.int (ns.sum : Nat)) H'
theorem sum_le {n k : Nat} : ∀ {ns : List Nat}, ns.length ≤ n → (∀ l ∈ ns, l ≤ k) → ns.sum ≤ n * k := by
  induction n with
  | zero =>
    intro ns h _
    cases ns with
    | nil => simp
    | cons a l => simp at h
  | succ n ih =>
    intro ns h hk
    cases ns with
    | nil => simp
    | cons a l =>
      have := ih (ns := l) (by rw [List.length_cons] at h; omega) (fun x hx => hk x (List.mem_cons_of_mem _ hx))
      have := hk a List.mem_cons_self
      rw [List.sum_cons, Nat.succ_mul]
      omega
/-- a statement that is never come to -/
theorem ps_dead {X : Cx} {st : Stmt} : PS X st (fun _ _ _ => False) := ⟨fun _ _ _ _ _ _ h => h.elim⟩
section
variable {P : Program} {w : World} {K : PySem.W.Frag} {mg : Str → Option Value} {base : Heap} {C fI fL : Addr}
theorem ok_len {fd : FuncData} (F : Fun K "__len__" "Talk.__len__" sLen fL fd) (T : TkB K C fI) (B : Bi mg) (mS : mg "sum" = none) : FnOk P w K mg base CX0 1 fL fd ["self"] (spLen C) := by
  refine F.ok scLen (fun vs H Q E h => ?_) (fun cdv A outer s H vs Q E hr h => ?_)
  · obtain ⟨_, _, _, rfl, _⟩ := h
    rfl
  · refine ⟨_, pss_one (ps_ret (pe_callB call_lenRng (by rfl) B.len PySem.boot_len (pa_cons (pe_callTy call_range1 (by rfl) B.range PyProof.Rows.boot_range (pa_cons (pe_callB (call_sumT rfl) (by rfl) mS PyProof.Rows.boot_sum (pa_cons (pe_fld (pv 0) rfl) pa_nil)) pa_nil)) pa_nil))), ?_⟩
    obtain ⟨x, ns, bs, rfl, ⟨dx, a, b, qs, h1, h2, h3, h4⟩, hn, q⟩ := h
    refine ⟨_, rfl, x, C, dx, _, _, rfl, h1, T.cl, T.nl, rfl, a, natI ns, rfl, SqT.of h2, _, rfl, fun p hp => ?_⟩
    refine ⟨p, ns.sum, rfl, ?_, hn, q _ (Same.upd hp)⟩
    rw [upd_same, natI_sum]
end
end Rp

namespace Rp
open PySem PySem.Spec PyProof.Rows L2 TL
abbrev sIW : Stmt := topS 8
abbrev sWW : Stmt := topS 9
abbrev sShow : Stmt := topS 13
abbrev sRead : Stmt := topS 14
abbrev sRR : Stmt := topS 15
abbrev sRS : Stmt := topS 16
theorem scIW : FnScope ["word"] ["word"] (defScope sIW) := ⟨rfl, rfl, rfl, by decide +kernel, rfl, by decide +kernel, by decide +kernel⟩
theorem scWW : FnScope ["word", "most"] ["word", "most"] (defScope sWW) := ⟨rfl, rfl, rfl, by decide +kernel, rfl, by decide +kernel, by decide +kernel⟩
theorem scShow : FnScope ["talk", "lines", "beats", "bits", "words", "bit"] ["talk"] (defScope sShow) := ⟨rfl, rfl, rfl, by decide +kernel, rfl, by decide +kernel, by decide +kernel⟩
theorem scRR : FnScope ["line", "words"] ["line"] (defScope sRR) := ⟨rfl, rfl, rfl, by decide +kernel, rfl, by decide +kernel, by decide +kernel⟩
theorem scRS : FnScope ["line", "rates", "words", "beats", "bits", "word"] ["line", "rates"] (defScope sRS) := ⟨rfl, rfl, rfl, by decide +kernel, rfl, by decide +kernel, by decide +kernel⟩
/-- what writes a number -/
def spIW : Sp := fun vs H Q _ => ∃ n : Nat, vs = [.str (num n)] ∧ 1 ≤ n ∧ n < 10000 ∧ Q (.bl true) H
/-- a written number -/
def spWW : Sp := fun vs H Q _ => ∃ n m : Nat, vs = [.str (num n), .int (m : Nat)] ∧ 1 ≤ n ∧ n ≤ m ∧ m < 10000 ∧ Q (.int (n : Nat)) H
def spShow (C : Addr) : Sp := fun vs H Q _ => ∃ x r ns bss, vs = [.ref x] ∧ TalkAt C H x (natI ns) (natR bss) ∧ TxOk r ns bss ∧ ∀ H', Same H H' → Q (.str (textOf r ns bss)) H'
def spRR : Sp := fun vs H Q _ => ∃ r : Nat, vs = [.str (headOf r)] ∧ 1 ≤ r ∧ r ≤ 4 ∧ ∀ H', Same H H' → Q (.int (r : Nat)) H'
def spRS : Sp := fun vs H Q _ => ∃ (l r : Nat) (row : List Nat), vs = [.str (lineOf l row), .int (r : Nat)] ∧ row.length = r ∧ 1 ≤ r ∧ r ≤ 4 ∧ 1 ≤ l ∧ l ≤ 20 ∧ (∀ b ∈ row, 1 ≤ b ∧ b ≤ 1000) ∧ ∀ H' p, Same H H' → H' p = some (.tup ((natI (l :: row)).map V.int)) → Q (.ref p) H'
section
variable {P : Program} {w : World} {K : PySem.W.Frag} {mg : Str → Option Value} {base : Heap} {C fI fM fW fL fJ : Addr} {fdM fdW fdI fdJ : FuncData} {t1 t2 t3 t4 : Tok}
theorem ok_iw {fd : FuncData} (F : Fun K "is_written" "is_written" sIW fW fd) : FnOk P w K mg base CX0 1 fW fd ["word"] spIW := by
  refine F.ok scIW (fun vs H Q E h => ?_) (fun cdv A outer s H vs Q E hr h => ?_)
  · obtain ⟨_, rfl, _⟩ := h
    rfl
  · refine ⟨_, pss_one (ps_ret (pe_and (pe_m0 PySem.F.slot_str_isascii PySem.F.type_str_isascii mt_isascii (pv 0)) (pe_and (pe_m0 PySem.F.slot_str_isdigit PySem.F.type_str_isdigit mt_isdigit (pv 0)) (pe_one (pe_or (pe_cmpR op_eq (pv 0) (pe_str) (nomark _)) (pe_one (pe_cmpR op_ne (pe_ix ix_str (pv 0) (pe_int) (fun _ _ => rfl)) (pe_str) (nomark _)))))))), ?_⟩
    obtain ⟨n, rfl, h1, h2, q⟩ := h
    obtain ⟨c, hc, hne⟩ := num_at h1
    have e4 := num_len (n := n) (by omega)
    have ez : sizeLine = 16777216 := sizeLine_eq
    refine ⟨_, rfl, ⟨_, rfl⟩, _, rfl, rfl, True.intro, _, rfl, ?_⟩
    rw [num_ascii, if_pos rfl]
    refine ⟨_, rfl, ⟨_, rfl⟩, _, rfl, rfl, True.intro, _, rfl, ?_⟩
    rw [num_digit, if_pos rfl]
    refine ⟨_, rfl, rfl, _, rfl, ite2 (fun _ => q) (fun _ => ?_)⟩
    refine ⟨_, rfl, _, 0, c, rfl, rfl, by rw [ez]; omega, hc, rfl, ?_⟩
    rw [decide_eq_false hne]
    exact q
theorem ok_ww {fd : FuncData} (F : Fun K "written_number" "written_number" sWW fW fd) (B : Bi mg) (mS : mg "str" = none) (FJ : Fun K "is_written" "is_written" sIW fJ fdJ) (mJ : mg "is_written" = some (.ref fJ)) (bJ : L2.Binds K fdJ ["word"] []) : FnOk P w K mg base CX0 2 fW fd ["word", "most"] spWW := by
  have GJ : FnOk P w K mg base CX0 1 fJ fdJ ["word"] spIW := ok_iw FJ
  refine F.ok scWW (fun vs H Q E h => ?_) (fun cdv A outer s H vs Q E hr h => ?_)
  · obtain ⟨_, _, rfl, _⟩ := h
    rfl
  · refine ⟨_, pss_cons (ps_if (PW.pt (pw_or (pt_not (pt_val (pe_call GJ hr (by rfl) mJ FJ.kp bJ .nil pass0 (pa_cons (pv 0) pa_nil)))) (pw_or (pt_cmpR op_gt (pe_callB call_len_str (by rfl) B.len PySem.boot_len (pa_cons (pv 0) pa_nil)) (pe_callB call_len_str (by rfl) B.len PySem.boot_len (pa_cons (pe_callTy call_str_int (by rfl) mS boot_str (pa_cons (pv 1) pa_nil)) pa_nil)) (nomark _)) (pw_or1 (pt_cmpR op_gt (pe_callTy call_int_str (by rfl) B.int boot_int (pa_cons (pv 0) pa_nil)) (pv 1) (nomark _)))))) (pss_one (ps_ret (pe_non))) (pss_nil))
    (pss_one (ps_ret (pe_callTy call_int_str (by rfl) B.int boot_int (pa_cons (pv 0) pa_nil)))), ?_⟩
    obtain ⟨n, m, rfl, h1, h2, h3, q⟩ := h
    have e4 := num_len (n := n) (by omega)
    have e5 := num_len (n := m) (by omega)
    have ez : sizeLine = 16777216 := sizeLine_eq
    refine ⟨_, rfl, n, rfl, h1, by omega, _, rfl, iteF ?_⟩
    refine ⟨_, rfl, _, rfl, by rw [ez]; omega, _, rfl, m, rfl, Nat.lt_trans (log_lt (k := 30) (by decide) (by omega)) (by decide), _, rfl, by rw [ez]; exact Nat.le_trans e5 (by decide), _, _, rfl, rfl, _, rfl, ?_⟩
    have ng : ¬ (((num m).length : Int) < ((num n).length : Int)) := by have := num_lens h2; omega
    refine ite2 (fun c => absurd (of_decide_eq_true c) ng) (fun _ => ?_)
    refine ⟨_, rfl, num n, n, rfl, num_int (by omega), by omega, _, rfl, _, _, rfl, rfl, _, rfl, ite2 (fun c => absurd (of_decide_eq_true c) (by omega)) (fun _ => ?_)⟩
    exact ⟨_, rfl, num n, n, rfl, num_int (by omega), by omega, q⟩
theorem ok_rr {fd fR : _} (F : Fun K "_read_rates" "_read_rates" sRR fR fd) (B : Bi mg) (mS : mg "str" = none) (FW : Fun K "written_number" "written_number" sWW fW fdW) (mW : mg "written_number" = some (.ref fW)) (bW : L2.Binds K fdW ["word", "most"] []) (FJ : Fun K "is_written" "is_written" sIW fJ fdJ) (mJ : mg "is_written" = some (.ref fJ)) (bJ : L2.Binds K fdJ ["word"] []) (mMR : mg "MOST_RATES" = some (.int 4 t1)) : FnOk P w K mg base CX0 3 fR fd ["line"] spRR := by
  have GW : FnOk P w K mg base CX0 2 fW fdW ["word", "most"] spWW := ok_ww FW B mS FJ mJ bJ
  refine F.ok scRR (fun vs H Q E h => ?_) (fun cdv A outer s H vs Q E hr h => ?_)
  · obtain ⟨_, rfl, _⟩ := h
    rfl
  · have nd := scRR.nd
    refine ⟨_, pss_cons (ps_set (i := 1) nd rfl (Or.inl rfl) (pe_split (pv 0) (pe_str)))
    (pss_cons (ps_if (PW.pt (pw_or (pt_cmpR op_ne (pe_callB call_len_seq (by rfl) B.len PySem.boot_len (pa_cons (pv 1) pa_nil)) (pe_int) (nomark _)) (pw_or1 (pt_cmpR op_ne (pe_ix ix_list (pv 1) (pe_int) (fun _ _ => rfl)) (pe_str) (nomark _))))) (pss_one (ps_ret (pe_non))) (pss_nil))
    (pss_one (ps_ret (pe_call GW hr (by rfl) mW FW.kp bW .nil pass0 (pa_cons (pe_ix ix_list (pv 1) (pe_int) (fun _ _ => rfl)) (pa_cons (pe_glob (v := .int 4) (by rfl) mMR ⟨_, rfl⟩) pa_nil)))))), ?_⟩
    obtain ⟨r, rfl, h1, h4, k⟩ := h
    have ez : sizeLine = 16777216 := sizeLine_eq
    have hl : (headOf r).length ≤ 10 := by
      have e := num_len (n := r) (by omega)
      unfold headOf
      rw [strLen_append]
      have : (("rates " : Str)).length = 6 := by decide +kernel
      omega
    refine ⟨_, rfl, ⟨_, rfl⟩, _, _, rfl, rfl, (by decide +kernel), by rw [ez]; omega, ?_⟩
    rw [split_head]
    refine fun p hp => ?_
    have s1 := Same.upd (o := .lst ([("rates" : Str), num r].map V.str)) hp
    have e1 : upd H p (.lst ([("rates" : Str), num r].map V.str)) p = some (.lst [.str ("rates" : Str), .str (num r)]) := upd_same
    generalize upd H p (.lst ([("rates" : Str), num r].map V.str)) = H1 at s1 e1 ⊢
    refine ⟨_, rfl, p, _, rfl, .inl (SqL.of e1), rfl, _, rfl, iteNS rfl ?_⟩
    refine ⟨_, rfl, p, _, 0, _, rfl, rfl, SqL.of e1, atI_nat (j := 0) rfl, rfl, _, rfl, iteNS rfl ?_⟩
    exact ⟨_, rfl, p, _, 1, _, rfl, rfl, SqL.of e1, atI_nat (j := 1) rfl, r, 4, rfl, h1, h4, by decide, k _ s1⟩
theorem cut_two {a b : V} {xs : List V} : cutV (a :: b :: xs) (some 2) none = xs := by
  unfold cutV
  rw [show (2 : Int) = ((2 : Nat) : Int) from rfl, HT.sIx_nat, HT.sIx_none]
  simp
theorem take_nat {row : List Nat} {m b : Nat} (h : row[m]? = some b) : (natI row).take (m + 1) = (natI row).take m ++ [(b : Int)] := by
  have h' : (natI row)[m]? = some (b : Int) := by unfold natI; rw [List.getElem?_map, h]; rfl
  obtain ⟨hm, e⟩ := List.getElem?_eq_some_iff.mp h'
  rw [List.take_succ_eq_append_getElem hm, e]
theorem flat_nat (row : List Nat) : ((natI row).map V.int).all flatV = true := by
  rw [List.all_eq_true]
  intro x hx
  obtain ⟨n, _, rfl⟩ := List.mem_map.mp hx
  rfl
theorem no_zero {row : List Nat} (h : ∀ b ∈ row, 1 ≤ b) : ((natI row).map fun n => n != 0).all id = true := by
  rw [List.all_eq_true]
  intro y hy
  obtain ⟨n, hn, rfl⟩ := List.mem_map.mp hy
  obtain ⟨b, hb, rfl⟩ := List.mem_map.mp (show n ∈ row.map (fun n : Nat => (n : Int)) from hn)
  have := h b hb
  show ((b : Int) != 0) = true
  simp
  omega
theorem ok_rs {fd fR : _} (F : Fun K "_read_stretch" "_read_stretch" sRS fR fd) (B : Bi mg) (mS : mg "str" = none) (mAll : mg "all" = none) (FW : Fun K "written_number" "written_number" sWW fW fdW) (mW : mg "written_number" = some (.ref fW)) (bW : L2.Binds K fdW ["word", "most"] []) (FJ : Fun K "is_written" "is_written" sIW fJ fdJ) (mJ : mg "is_written" = some (.ref fJ)) (bJ : L2.Binds K fdJ ["word"] []) (mMB : mg "MOST_BEATS" = some (.int 20 t2)) (mMI : mg "MOST_BITS" = some (.int 1000 t3)) : FnOk P w K mg base CX0 3 fR fd ["line", "rates"] spRS := by
  have GW : FnOk P w K mg base CX0 2 fW fdW ["word", "most"] spWW := ok_ww FW B mS FJ mJ bJ
  refine F.ok scRS (fun vs H Q E h => ?_) (fun cdv A outer s H vs Q E hr h => ?_)
  · obtain ⟨_, _, _, rfl, _⟩ := h
    rfl
  · have nd := scRS.nd
    refine ⟨_, pss_cons (ps_set (i := 2) nd rfl (Or.inl rfl) (pe_split (pv 0) (pe_str)))
    (pss_cons (ps_if (PW.pt (pw_or (pt_cmpR op_ne (pe_callB call_len_seq (by rfl) B.len PySem.boot_len (pa_cons (pv 2) pa_nil)) (pe_op op_add (pv 1) (pe_int)) (nomark _)) (pw_or1 (pt_cmpR op_ne (pe_ix ix_list (pv 2) (pe_int) (fun _ _ => rfl)) (pe_str) (nomark _))))) (pss_one (ps_ret (pe_non))) (pss_nil))
    (pss_cons (ps_set (i := 3) nd rfl (Or.inl rfl) (pe_call GW hr (by rfl) mW FW.kp bW .nil pass0 (pa_cons (pe_ix ix_list (pv 2) (pe_int) (fun _ _ => rfl)) (pa_cons (pe_glob (v := .int 20) (by rfl) mMB ⟨_, rfl⟩) pa_nil))))
    (pss_cons (ps_setLc (i := 4) (own := [("word", 5)]) (g := gName 5) (tt := tYes) rfl nd rfl rfl (sw_true rfl rfl rfl rfl) (pi_list (pe_slice sl_list (pv 2) (po_some (pe_int)) po_none)) (blkOk_by (own := [("word", 5)]) (N := ["line", "rates", "words", "beats", "bits", "word"]) (sc := defScope sRS) (by decide +kernel)) (fun _ _ _ _ _ => pg_name (i := 5) nd rfl (Or.inl rfl)) (fun _ _ _ _ _ => pts_nil) (fun _ _ _ _ _ => pe_call GW hr (by rfl) mW FW.kp bW .nil pass0 (pa_cons (pv 5) (pa_cons (pe_glob (v := .int 1000) (by rfl) mMI ⟨_, rfl⟩) pa_nil))))
    (pss_cons (ps_if (PW.pt (pw_or (pt_not (pt_truth (pv 3) (by intro _; rfl))) (pw_or1 (pt_not (pt_val (pe_callB (cr_allI rfl) (by rfl) mAll (by decide +kernel) (pa_cons (pv 4) pa_nil))))))) (pss_one (ps_ret (pe_non))) (pss_nil))
    (pss_one (ps_ret (pe_tup (pa_cons (pv 3) (StX.pa_star (pv 4) pa_nil))))))))), ?_⟩
    obtain ⟨l, r, row, rfl, hr0, r1, r4, l1, l20, hb, k⟩ := h
    have ez : sizeLine = 16777216 := sizeLine_eq
    have hl := line_len (l := l) (row := row) (by omega) (fun b h => by have := hb b h; omega)
    refine ⟨_, rfl, ⟨_, rfl⟩, _, _, rfl, rfl, (by decide +kernel), by rw [ez]; omega, ?_⟩
    rw [split_line]
    refine fun p hp => ?_
    have s1 := Same.upd (o := .lst ((wordsOf l row).map V.str)) hp
    have e1 : upd H p (.lst ((wordsOf l row).map V.str)) p = some (.lst (.str (num l) :: .str (":" : Str) :: (row.map num).map V.str)) := upd_same
    generalize upd H p (.lst ((wordsOf l row).map V.str)) = H1 at s1 e1 ⊢
    have el : ((.str (num l) :: .str (":" : Str) :: (row.map num).map V.str : List V).length : Int) = (r : Int) + 2 := by
      simp only [List.length_cons, List.length_map]
      omega
    refine ⟨_, rfl, p, _, rfl, .inl (SqL.of e1), _, rfl, _, _, rfl, rfl, rfl, _, rfl, iteNS (congrArg V.int el) ?_⟩
    refine ⟨_, rfl, p, _, 1, _, rfl, rfl, SqL.of e1, atI_nat (j := 1) rfl, rfl, _, rfl, iteNS rfl ?_⟩
    refine ⟨_, rfl, p, _, 0, _, rfl, rfl, SqL.of e1, atI_nat (j := 0) rfl, l, 20, rfl, l1, l20, by decide, ?_⟩
    refine ⟨_, rfl, _, rfl, p, _, rfl, SqL.of e1, fun p2 hp2 => ?_⟩
    rw [cut_two]
    have s2 := Same.upd (o := .lst ((row.map num).map V.str)) hp2
    have e2 : upd H1 p2 (.lst ((row.map num).map V.str)) p2 = some (.lst ((row.map num).map V.str)) := upd_same
    generalize upd H1 p2 (.lst ((row.map num).map V.str)) = H2 at s2 e2 ⊢
    refine ⟨p2, rfl, ⟨_, SqL.of e2⟩, fun D hD => ?_⟩
    refine lc_list (K := K) (a := p2) (xs := (row.map num).map V.str) (fun m H => H D = some (.lst (((natI row).take m).map V.int)) ∧ Same H2 H) ⟨upd_same, Same.upd hD⟩ (fun m H _ ⟨_, sD⟩ => SqL.of (sD _ _ e2)) ?_ ?_
    · rintro m y H hy ⟨eD, sD⟩
      rw [List.getElem?_map, List.getElem?_map] at hy
      obtain ⟨z, hz, rfl⟩ := Option.map_eq_some_iff.mp hy
      obtain ⟨b, hb0, rfl⟩ := Option.map_eq_some_iff.mp hz
      obtain ⟨b1, b2⟩ := hb b (List.mem_of_getElem? hb0)
      refine ⟨rfl, ?_⟩
      refine ⟨_, rfl, b, 1000, rfl, b1, b2, by decide, _, eD, ?_, ?_, ?_⟩
      · rw [List.length_map, List.length_take, natI_len, ez]
        omega
      · rw [upd_same, take_nat hb0, List.map_append]
        rfl
      · intro c o q
        rw [upd_ne (ne_of_none q hD)]
        exact sD _ _ q
    · rintro H ⟨eD, sD⟩
      rw [show ((row.map num).map V.str).length = (natI row).length by rw [List.length_map, List.length_map, natI_len], List.take_length] at eD
      have nz : ((l : Int) != 0) = true := by simp; omega
      refine ⟨_, rfl, true, nz.symm, iteF ?_⟩
      refine ⟨_, rfl, D, _, rfl, SqL.of eD, _, rfl, ?_⟩
      rw [show ((natI row).map fun n => n != 0).all id = true from no_zero fun b h => (hb b h).1]
      refine iteF ?_
      refine ⟨_, rfl, _, rfl, D, _, rfl, .inr (SqL.of eD), ?_, fun p3 hp3 => ?_⟩
      · rw [List.append_nil, List.length_cons, List.length_map, natI_len, ez]
        omega
      · refine k _ p3 ((s1.trans s2).trans (sD.trans (Same.upd hp3))) ?_
        rw [upd_same, List.append_nil]
        rfl
theorem rows_at {H : Hp} {qs : List Addr} {bss : List (List Nat)} {i : Nat} {q : Addr} (h : RowsAt H qs (natR bss)) (hq : qs[i]? = some q) : ∃ row, bss[i]? = some row ∧ H q = some (.tup ((natI row).map V.int)) := by
  induction bss generalizing qs i with
  | nil =>
    unfold natR at h
    cases h
    simp at hq
  | cons row bss ih =>
    unfold natR at h
    cases h with
    | cons a t =>
      cases i with
      | zero =>
        have e := Option.some.inj hq
        subst e
        exact ⟨row, rfl, a⟩
      | succ i => exact ih t hq
theorem zip_take {ns : List Nat} {bss : List (List Nat)} {i l : Nat} {row : List Nat} (h1 : ns[i]? = some l) (h2 : bss[i]? = some row) : (linesOf ns bss).take (i + 1) = (linesOf ns bss).take i ++ [lineOf l row] := by
  have h : (linesOf ns bss)[i]? = some (lineOf l row) := by
    unfold linesOf
    rw [List.getElem?_zipWith, h1, h2]
  obtain ⟨hm, e⟩ := List.getElem?_eq_some_iff.mp h
  rw [List.take_succ_eq_append_getElem hm, e]
theorem linesOf_len (ns : List Nat) (bss : List (List Nat)) (h : ns.length = bss.length) : (linesOf ns bss).length = ns.length := by
  unfold linesOf
  rw [List.length_zipWith, h, Nat.min_self]
theorem new_at' {H : Hp} {p : Addr} {o : HO} (_ : H p = none) : upd H p o p = some o := upd_same
theorem lines_len {r : Nat} {ns : List Nat} {bss : List (List Nat)} (ok : TxOk r ns bss) : ∀ w ∈ linesOf ns bss, w.length ≤ 30 := by
  intro w hw
  unfold linesOf at hw
  obtain ⟨i, hi, rfl⟩ := List.mem_iff_getElem.mp hw
  rw [List.getElem_zipWith]
  have hz := hi
  rw [List.length_zipWith] at hz
  have a := ok.ns _ (List.getElem_mem (l := ns) (n := i) (by omega))
  obtain ⟨b, c⟩ := ok.bs _ (List.getElem_mem (l := bss) (n := i) (by omega))
  have d := line_len (l := ns[i]) (row := bss[i]) (by omega) (fun x hx => by have := c x hx; omega)
  have := ok.r4
  rw [b] at d
  omega
theorem ok_show {fd fS : _} (F : Fun K "show_talk" "show_talk" sShow fS fd) (B : Bi mg) (T : TkB K C fI) (mM : Meth K C "many_rates" fM) (mS : mg "str" = none) (mZ : mg "zip" = none) (FM : Fun K "many_rates" "Talk.many_rates" sMany fM fdM) (bM : L2.Binds K fdM ["self"] []) : FnOk P w K mg base CX0 2 fS fd ["talk"] (spShow C) := by
  have GM : FnOk P w K mg base CX0 1 fM fdM ["self"] (spMany C) := ok_many FM T B
  refine F.ok scShow (fun vs H Q E h => ?_) (fun cdv A outer s H0 vs Q E hr h => ?_)
  · obtain ⟨_, _, _, _, rfl, _⟩ := h
    rfl
  · have nd := scShow.nd
    refine ⟨_, pss_cons (ps_set (i := 1) nd rfl (Or.inl rfl) (pe_lst (pa_cons (pe_joined (PJ.cons (pe_str) (PJ.cons (pe_fmt (pe_meth0 (pv 0) T.cl mM GM hr bM .nil pass0)) (PJ.nil)))) pa_nil)))
    (pss_cons (ps_for PassesOwn.never rfl (RZ.pi_zipA (by rfl) mZ (pa_cons (pe_fld (pv 0) rfl) (pa_cons (pe_fld (pv 0) rfl) pa_nil))) (pg_tup rfl (pgs_cons (pg_name (i := 2) nd rfl (Or.inl rfl)) (pgs_cons (pg_name (i := 3) nd rfl (Or.inl rfl)) (pgs_nil)))) (pss_cons (ps_set (i := 4) nd rfl (Or.inl rfl) (pe_op op_cat (pe_lst (pa_cons (pe_callTy call_str_int (by rfl) mS boot_str (pa_cons (pv 2) pa_nil)) (pa_cons (pe_str) pa_nil))) (pe_lc (own := [("bit", 5)]) (g := gName 5) (tt := tYes) rfl nd (pi_tup (pv 3)) (blkOk_by (own := [("bit", 5)]) (N := ["talk", "lines", "beats", "bits", "words", "bit"]) (sc := defScope sShow) (by decide +kernel)) (fun _ _ _ _ _ => pg_name (i := 5) nd rfl (Or.inl rfl)) (fun _ _ _ _ _ => pts_nil) (fun _ _ _ _ _ => pe_callTy call_str_int (by rfl) mS boot_str (pa_cons (pv 5) pa_nil)))))
      (pss_one (ps_expr (pe_bm PySem.F.plainAttrs_list PySem.F.slot_list_append PySem.F.type_list_append mt_append (pv 1) (pa_cons (pe_join (pe_str) (pv 4)) pa_nil))))))
    (pss_one (ps_ret (pe_join (pe_str) (pv 1))))), ?_⟩
    obtain ⟨x, r, ns, bss, rfl, tx, ok, k⟩ := h
    obtain ⟨dx, a, b, qs, h1, h2, h3, h4⟩ := id tx
    have ez : sizeLine = 16777216 := sizeLine_eq
    obtain ⟨row0, rest, rfl⟩ : ∃ row0 rest, bss = row0 :: rest := by
      cases bss with
      | nil =>
        exact absurd ok.pos (by have := ok.same; rw [List.length_nil] at this; omega)
      | cons a l => exact ⟨a, l, rfl⟩
    have er : row0.length = r := (ok.bs row0 List.mem_cons_self).1
    have r4 := ok.r4
    have ehd : (Str.empty ++ ("rates " : Str)) ++ Str.ofString (toString (((natI row0).length : Nat) : Int)) = headOf r := by
      rw [natI_len, er]
      unfold headOf num
      rw [show Str.empty ++ ("rates " : Str) = ("rates " : Str) by decide +kernel]
    have hlen : (headOf r).length ≤ 10 := by
      have e := num_len (n := r) (by omega)
      unfold headOf
      rw [strLen_append]
      have : (("rates " : Str)).length = 6 := by decide +kernel
      omega
    refine ⟨_, rfl, (by decide +kernel), _, rfl, x, dx, _, rfl, h1, rfl, x, natI ns, natI row0, natR rest, rfl, tx, .inr ⟨_, rfl, Nat.lt_trans (log_lt (k := 30) (by decide) (by rw [natI_len]; omega)) (by decide), _, rfl, by rw [ehd, ez]; omega, ?_⟩⟩
    rw [ehd]
    refine ⟨(by show 1 ≤ sizeLine; decide), fun L hL => ?_⟩
    have s1 := Same.upd (o := .lst [V.str (headOf r)]) hL
    have eL := new_at' (o := .lst [V.str (headOf r)]) hL
    generalize upd H0 L (.lst [V.str (headOf r)]) = H1 at s1 eL ⊢
    refine ⟨_, rfl, x, C, dx, _, _, rfl, s1 _ _ h1, T.cl, T.nl, rfl, _, rfl, x, C, dx, _, _, rfl, s1 _ _ h1, T.cl, T.ns, rfl, a, b, _, _, rfl, .inr ⟨SqT.of (s1 _ _ h2), SqT.of (s1 _ _ h3), ?_⟩⟩
    refine RZ.for_zipT (K := K) (a := a) (b := b) (xs := (natI ns).map V.int) (ys := qs.map V.ref) (by rw [List.length_map, List.length_map, natI_len, h4.length]; unfold natR; rw [List.length_map]; exact ok.same)
      (fun i σ H => ∃ v2 v3 v4 v5, σ = [some (.ref x), some (.ref L), v2, v3, v4, v5] ∧ H L = some (.lst ((headOf r :: (linesOf ns (row0 :: rest)).take i).map V.str)) ∧ Same H0 H) ⟨_, _, _, _, rfl, eL, s1⟩ (fun i σ H ⟨_, _, _, _, _, _, sH⟩ => ⟨SqT.of (sH _ _ h2), SqT.of (sH _ _ h3)⟩) ?_ ?_
    · rintro i xv yv T' σ H hxv hyv ⟨v2, v3, v4, v5, rfl, eL, sH⟩ hT'
      rw [List.getElem?_map] at hxv hyv
      obtain ⟨li, hli, rfl⟩ := Option.map_eq_some_iff.mp hxv
      obtain ⟨q, hq, rfl⟩ := Option.map_eq_some_iff.mp hyv
      unfold natI at hli
      rw [List.getElem?_map] at hli
      obtain ⟨l, hl, rfl⟩ := Option.map_eq_some_iff.mp hli
      obtain ⟨row, hrow, hqr⟩ := rows_at h4 hq
      obtain ⟨rowr, rowb⟩ := ok.bs row (List.mem_of_getElem? hrow)
      have l20 := ok.ns l (List.mem_of_getElem? hl)
      have sT := Same.upd (o := .tup [.int (l : Int), .ref q]) hT'
      have eT := new_at' (o := .tup [.int (l : Int), .ref q]) hT'
      generalize upd H T' (.tup [.int (l : Int), .ref q]) = H2 at sT eT ⊢
      refine ⟨T', _, rfl, SqT.of eT, rfl, _, _, rfl, _, _, rfl, rfl, ?_⟩
      refine ⟨_, rfl, _, rfl, Nat.lt_trans (log_lt (k := 30) (by decide) (by omega)) (by decide), (by show 2 ≤ sizeLine; decide), fun W1 hW1 => ?_⟩
      have sW := Same.upd (o := .lst [.str (num l), .str (":" : Str)]) hW1
      have eW := new_at' (o := .lst [.str (num l), .str (":" : Str)]) hW1
      have s03 := (sH.trans sT).trans sW
      refine ⟨_, rfl, q, rfl, ⟨_, SqT.of (s03 _ _ hqr)⟩, fun D hD => ?_⟩
      refine lc_tup (K := K) (a := q) (xs := (natI row).map V.int) (fun m H' => H' D = some (.lst (((row.take m).map num).map V.str)) ∧ Same (upd H2 W1 (.lst [.str (num l), .str (":" : Str)])) H') ⟨upd_same, Same.upd hD⟩ (fun m H' _ ⟨_, sD⟩ => SqT.of (sD _ _ (s03 _ _ hqr))) ?_ ?_
      · rintro m y H' hy ⟨eD, sD⟩
        rw [List.getElem?_map] at hy
        obtain ⟨z, hz, rfl⟩ := Option.map_eq_some_iff.mp hy
        unfold natI at hz
        rw [List.getElem?_map] at hz
        obtain ⟨c, hc, rfl⟩ := Option.map_eq_some_iff.mp hz
        have c2 := (rowb c (List.mem_of_getElem? hc)).2
        obtain ⟨hm, ec⟩ := List.getElem?_eq_some_iff.mp hc
        refine ⟨rfl, ?_⟩
        refine ⟨_, rfl, _, rfl, Nat.lt_trans (log_lt (k := 30) (by decide) (by omega)) (by decide), _, eD, ?_, ?_, ?_⟩
        · rw [List.length_map, List.length_map, List.length_take, ez]
          omega
        · rw [upd_same, List.take_succ_eq_append_getElem hm, ec, List.map_append, List.map_append]
          rfl
        · intro c' o' q'
          rw [upd_ne (ne_of_none q' hD)]
          exact sD _ _ q'
      · rintro H' ⟨eD, sD⟩
        rw [List.length_map, natI_len, List.take_length] at eD
        refine ⟨W1, D, _, _, rfl, rfl, sD _ _ eW, eD, ?_, fun W hW => ?_⟩
        · rw [List.length_map, List.length_map, rowr, ez]
          show 2 + r ≤ _
          omega
        have sX := Same.upd (o := .lst ([.str (num l), .str (":" : Str)] ++ (row.map num).map V.str)) hW
        have eX : upd H' W (.lst ([.str (num l), .str (":" : Str)] ++ (row.map num).map V.str)) W = some (.lst ((wordsOf l row).map V.str)) := upd_same
        generalize upd H' W (.lst ([.str (num l), .str (":" : Str)] ++ (row.map num).map V.str)) = H4 at sX eX ⊢
        have sAll := ((sT.trans sW).trans sD).trans sX
        refine ⟨_, rfl, .inl ⟨rfl, _, SqL.of (sAll _ _ eL)⟩, ⟨_, rfl⟩, _, rfl, _, W, wordsOf l row, rfl, rfl, .inl (SqL.of eX), ?_, L, _, _, rfl, rfl, sAll _ _ eL, ?_, ?_⟩
        · have q6 : (wordsOf l row).length = r + 2 := by unfold wordsOf; simp [rowr]
          have qs := sum_le (n := 6) (k := 4) (ns := (wordsOf l row).map (fun z => z.length)) (by rw [List.length_map, q6]; omega) (fun z hz => by
            obtain ⟨w, hw, rfl⟩ := List.mem_map.mp hz
            unfold wordsOf at hw
            rcases List.mem_cons.mp hw with rfl | hw
            · exact num_len (by omega)
            · rcases List.mem_cons.mp hw with rfl | hw
              · decide +kernel
              · obtain ⟨c, hc, rfl⟩ := List.mem_map.mp hw
                exact num_len (by have := rowb c hc; omega))
          have e1 : ((" " : Str)).length = 1 := by decide +kernel
          rw [e1, q6]
          omega
        · rw [List.length_map, List.length_cons, List.length_take]
          have := linesOf_len ns (row0 :: rest) ok.same
          have := ok.most
          exact small1000 (by omega)
        · refine ⟨_, _, _, _, rfl, ?_, ?_⟩
          · rw [upd_same, zip_take hl hrow, ← List.cons_append, List.map_append]
            rfl
          · intro c' o' q'
            rw [upd_ne (ne_of_none q' hL)]
            exact sAll _ _ (sH _ _ q')
    · rintro σ H ⟨v2, v3, v4, v5, rfl, eL, sH⟩
      rw [List.length_map, natI_len, ← linesOf_len ns (row0 :: rest) ok.same, List.take_length] at eL
      refine ⟨⟨_, rfl⟩, _, rfl, _, L, headOf r :: linesOf ns (row0 :: rest), rfl, rfl, .inl (SqL.of eL), ?_, k _ sH⟩
      have ll := linesOf_len ns (row0 :: rest) ok.same
      have lm := ok.most
      have qs := sum_le (n := 13) (k := 30) (ns := (headOf r :: linesOf ns (row0 :: rest)).map (fun z => z.length)) (by rw [List.length_map, List.length_cons]; omega) (fun z hz => by
        obtain ⟨w, hw, rfl⟩ := List.mem_map.mp hz
        rcases List.mem_cons.mp hw with rfl | hw
        · omega
        · exact lines_len ok w hw)
      have e1 : (("\n" : Str)).length = 1 := by decide +kernel
      rw [e1, List.length_cons]
      omega
end
end Rp

namespace Rp
open PySem PySem.Spec PyProof.Rows L2 TL
section
variable {P : Program} {w : World} {K : PySem.W.Frag} {mg : Str → Option Value} {base : Heap} {C fI fM fW fL fJ : Addr} {fdM fdW fdI fdJ : FuncData} {t1 t2 t3 t4 : Tok}
theorem cut_one {a : V} {xs : List V} : cutV (a :: xs) (some 1) none = xs := by
  unfold cutV
  rw [show (1 : Int) = ((1 : Nat) : Int) from rfl, HT.sIx_nat, HT.sIx_none]
  simp
theorem lines_at {ns : List Nat} {bss : List (List Nat)} {i : Nat} {w : Str} (h : (linesOf ns bss)[i]? = some w) : ∃ l row, ns[i]? = some l ∧ bss[i]? = some row ∧ w = lineOf l row := by
  unfold linesOf at h
  obtain ⟨hi, e⟩ := List.getElem?_eq_some_iff.mp h
  rw [List.length_zipWith] at hi
  rw [List.getElem_zipWith] at e
  exact ⟨ns[i]'(by omega), bss[i]'(by omega), List.getElem?_eq_getElem _, List.getElem?_eq_getElem _, e.symm⟩
theorem take_row {bss : List (List Nat)} {i : Nat} {row : List Nat} (h : bss[i]? = some row) : natR (bss.take (i + 1)) = natR (bss.take i) ++ [natI row] := by
  obtain ⟨hm, e⟩ := List.getElem?_eq_some_iff.mp h
  unfold natR
  rw [List.take_succ_eq_append_getElem hm, e, List.map_append]
  rfl
theorem scRead : FnScope ["text", "lines", "rates", "lengths", "sizes", "at", "line", "numbers"] ["text"] (defScope sRead) := ⟨rfl, rfl, rfl, by decide +kernel, rfl, by decide +kernel, by decide +kernel⟩
def spRead (C : Addr) : Sp := fun vs H Q _ => ∃ r ns bss, vs = [.str (textOf r ns bss)] ∧ TxOk r ns bss ∧ ∀ H' y, Same H H' → TalkAt C H' y (natI ns) (natR bss) → Q (.ref y) H'
theorem text_len {r : Nat} {ns : List Nat} {bss : List (List Nat)} (ok : TxOk r ns bss) : (textOf r ns bss).length ≤ 403 := by
  have ll := linesOf_len ns bss ok.same
  have lm := ok.most
  have hw : ∀ w ∈ headOf r :: linesOf ns bss, w.length ≤ 30 := fun w hw => by
    rcases List.mem_cons.mp hw with rfl | hw
    · have e := num_len (n := r) (by have := ok.r4; omega)
      have e6 : (("rates " : Str)).length = 6 := by decide +kernel
      have e7 : (headOf r).length = ("rates " : Str).length + (num r).length := strLen_append _ _
      rw [e7, e6]
      omega
    · exact lines_len ok w hw
  have hp : ∀ p ∈ (headOf r :: linesOf ns bss).map tl, p.length ≤ 30 := fun p hp => by
    obtain ⟨w, h, rfl⟩ := List.mem_map.mp hp
    have := hw w h
    rw [len_tl] at this
    exact this
  have q := joinL_len (S := [10]) hp
  have e : (textOf r ns bss).length = (joinL [10] ((headOf r :: linesOf ns bss).map tl)).length := by
    unfold textOf
    rw [len_tl, tl_joins, tl_line]
  rw [e]
  refine Nat.le_trans q ?_
  rw [List.length_map, List.length_cons, ll, List.length_singleton]
  omega
theorem ok_read {fd fS fR fT : _} {fdR fdS : FuncData} (F : Fun K "read_talk" "read_talk" sRead fT fd) (B : Bi mg) (T : TkB K C fI) (mC : mg "Talk" = some (.ref C)) (mS : mg "str" = none) (mE : mg "enumerate" = none) (mI : mg "isinstance" = none)
    (FI : Fun K "__init__" "Talk.__init__" sInit fI fdI) (bI : L2.Binds K fdI ["self", "lengths", "sizes"] [])
    (FW : Fun K "written_number" "written_number" sWW fW fdW) (mW : mg "written_number" = some (.ref fW)) (bW : L2.Binds K fdW ["word", "most"] []) (FJ : Fun K "is_written" "is_written" sIW fJ fdJ) (mJ : mg "is_written" = some (.ref fJ)) (bJ : L2.Binds K fdJ ["word"] []) (mAll : mg "all" = none) (mMR : mg "MOST_RATES" = some (.int 4 t1)) (mMB : mg "MOST_BEATS" = some (.int 20 t2)) (mMI : mg "MOST_BITS" = some (.int 1000 t3)) (mMS : mg "MOST_STRETCHES" = some (.int 12 t4))
    (FR : Fun K "_read_rates" "_read_rates" sRR fR fdR) (mR : mg "_read_rates" = some (.ref fR)) (bR : L2.Binds K fdR ["line"] []) (FS : Fun K "_read_stretch" "_read_stretch" sRS fS fdS) (mSt : mg "_read_stretch" = some (.ref fS)) (bS : L2.Binds K fdS ["line", "rates"] []) : FnOk P w K mg base CX0 4 fT fd ["text"] (spRead C) := by
  have GI : FnOk P w K mg base CX0 1 fI fdI ["self", "lengths", "sizes"] (spInit C) := ok_init FI T
  have GR : FnOk P w K mg base CX0 3 fR fdR ["line"] spRR := ok_rr FR B mS FW mW bW FJ mJ bJ mMR
  have GS : FnOk P w K mg base CX0 3 fS fdS ["line", "rates"] spRS := ok_rs FS B mS mAll FW mW bW FJ mJ bJ mMB mMI
  refine F.ok scRead (fun vs H Q E h => ?_) (fun cdv A outer s H0 vs Q E hr h => ?_)
  · obtain ⟨_, _, _, rfl, _⟩ := h
    rfl
  · have nd := scRead.nd
    have hr1 : Room 1 _ := hr.mono (by decide)
    have hr2 : Room 2 _ := hr.mono (by decide)
    refine ⟨_, pss_cons (ps_if (pt_not (pt_val (pe_callB call_isi (by rfl) mI (by decide +kernel) (pa_cons (pv 0) (pa_cons (pe_bltn (v := .ty "str") (by rfl) mS (by decide +kernel) rfl) pa_nil))))) (pss_one (ps_dead)) (pss_nil))
    (pss_cons (ps_set (i := 1) nd rfl (Or.inl rfl) (pe_split (pv 0) (pe_str)))
    (pss_cons (ps_set (i := 2) nd rfl (Or.inl rfl) (pe_call GR hr (by rfl) mR FR.kp bR .nil pass0 (pa_cons (pe_ix ix_list (pv 1) (pe_int) (fun _ _ => rfl)) pa_nil)))
    (pss_cons (ps_if (pt_not (pt_truth (pv 2) (by intro _; rfl))) (pss_one (ps_dead)) (pss_nil))
    (pss_cons (ps_if (pt_cmpR op_eq (pe_callB call_len_seq (by rfl) B.len PySem.boot_len (pa_cons (pv 1) pa_nil)) (pe_int) (nomark _)) (pss_one (ps_dead)) (pss_nil))
    (pss_cons (ps_set (i := 3) nd rfl (Or.inl rfl) (pe_lst (pa_nil)))
    (pss_cons (ps_set (i := 4) nd rfl (Or.inl rfl) (pe_lst (pa_nil)))
    (pss_cons (ps_for PassesOwn.never rfl (pi_enumK (by rfl) mE (pa_cons (pe_slice sl_list (pv 1) (po_some (pe_int)) po_none) pa_nil) (pk_cons (pe_int) pk_nil)) (pg_tup rfl (pgs_cons (pg_name (i := 5) nd rfl (Or.inl rfl)) (pgs_cons (pg_name (i := 6) nd rfl (Or.inl rfl)) (pgs_nil)))) (pss_cons (ps_set (i := 7) nd rfl (Or.inl rfl) (pe_call GS hr (by rfl) mSt FS.kp bS .nil pass0 (pa_cons (pv 6) (pa_cons (pv 2) pa_nil))))
      (pss_cons (ps_if (PW.pt (pw_or (pt_cmpR op_gt (pv 5) (pe_glob (v := .int 12) (by rfl) mMS ⟨_, rfl⟩) (nomark _)) (pw_or1 (pt_cmpR op_isN (pv 7) (pe_non) (nomark _))))) (pss_one (ps_dead)) (pss_nil))
      (pss_cons (ps_expr (pe_bm PySem.F.plainAttrs_list PySem.F.slot_list_append PySem.F.type_list_append mt_append (pv 3) (pa_cons (pe_ix ix_tup (pv 7) (pe_int) (fun _ _ => rfl)) pa_nil)))
      (pss_one (ps_expr (pe_bm PySem.F.plainAttrs_list PySem.F.slot_list_append PySem.F.type_list_append mt_append (pv 4) (pa_cons (pe_slice sl_tupA (pv 7) (po_some (pe_int)) po_none) pa_nil))))))))
    (pss_one (ps_ret (pe_make T.make GI hr2 (by rfl) mC bI .nil pass0 (pa_cons (pe_callTy call_tuple_of (by rfl) B.tuple boot_tuple (pa_cons (pv 3) pa_nil)) (pa_cons (pe_callTy call_tuple_of (by rfl) B.tuple boot_tuple (pa_cons (pv 4) pa_nil)) pa_nil)))))))))))), ?_⟩
    obtain ⟨r, ns, bss, rfl, ok, k⟩ := h
    have ez : sizeLine = 16777216 := sizeLine_eq
    have tl1 := text_len ok
    have ll := linesOf_len ns bss ok.same
    have lm := ok.most
    have lp := ok.pos
    have r1 := ok.r1
    have r4 := ok.r4
    refine ⟨_, rfl, _, _, _, _, true, rfl, .ty "str", .base (.str _), kit_ty (by decide +kernel), true, rfl, iteF ?_⟩
    refine ⟨_, rfl, ⟨_, rfl⟩, _, _, rfl, rfl, (by decide +kernel), by rw [ez]; omega, ?_⟩
    rw [split_text]
    refine fun p hp => ?_
    have s1 := Same.upd (o := .lst ((headOf r :: linesOf ns bss).map V.str)) hp
    have e1 : upd H0 p (.lst ((headOf r :: linesOf ns bss).map V.str)) p = some (.lst (.str (headOf r) :: (linesOf ns bss).map V.str)) := upd_same
    generalize upd H0 p (.lst ((headOf r :: linesOf ns bss).map V.str)) = H1 at s1 e1 ⊢
    refine ⟨_, rfl, p, _, 0, _, rfl, rfl, SqL.of e1, atI_nat (j := 0) rfl, r, rfl, r1, r4, fun H2 s2 => ?_⟩
    have e2 := s2 _ _ e1
    have nz : ((r : Int) != 0) = true := by simp; omega
    refine ⟨_, rfl, true, nz.symm, iteF ?_⟩
    refine ⟨_, rfl, p, _, rfl, .inl (SqL.of e2), rfl, _, rfl, ite2 (fun c => ?_) (fun _ => ?_)⟩
    · have c := of_decide_eq_true c
      injection c with c
      rw [List.length_cons, List.length_map, ll] at c
      omega
    refine ⟨Nat.zero_le _, fun L hL => ⟨Nat.zero_le _, fun S hS => ?_⟩⟩
    have sL := Same.upd (o := .lst []) hL
    have sS := Same.upd (o := .lst []) hS
    have nLS : L ≠ S := ne_of_none (new_at' (o := .lst []) hL) hS
    have nS : H2 S = none := by
      cases q : H2 S with
      | none => rfl
      | some o => have := sL _ _ q; rw [hS] at this; cases this
    have eL : upd (upd H2 L (.lst [])) S (.lst []) L = some (.lst []) := by rw [upd_ne nLS, upd_same]
    have eS : upd (upd H2 L (.lst [])) S (.lst []) S = some (.lst []) := upd_same
    have s23 := sL.trans sS
    generalize upd (upd H2 L (.lst [])) S (.lst []) = H3 at s23 eL eS ⊢
    refine ⟨_, rfl, _, rfl, p, _, rfl, SqL.of (s23 _ _ e2), fun p2 hp2 => ?_⟩
    rw [cut_one]
    have s4 := Same.upd (o := .lst ((linesOf ns bss).map V.str)) hp2
    have e4 := new_at' (o := .lst ((linesOf ns bss).map V.str)) hp2
    have nL2 : L ≠ p2 := ne_of_none eL hp2
    have nS2 : S ≠ p2 := ne_of_none eS hp2
    generalize upd H3 p2 (.lst ((linesOf ns bss).map V.str)) = H4 at s4 e4 ⊢
    refine ⟨p2, _, 1, rfl, rfl, by decide, by decide, SqL.of e4, ?_⟩
    refine for_enumK (K := K) (a := p2) (c := 1) (xs := (linesOf ns bss).map V.str) (fun i σ H => ∃ v5 v6 v7, σ = [some (.str (textOf r ns bss)), some (.ref p), some (.int (r : Nat)), some (.ref L), some (.ref S), v5, v6, v7] ∧ H p2 = some (.lst ((linesOf ns bss).map V.str)) ∧ Same H2 H ∧
      H L = some (.lst (((natI ns).take i).map V.int)) ∧ ∃ qs, H S = some (.lst (qs.map V.ref)) ∧ RowsAt H qs (natR (bss.take i))) ⟨_, _, _, rfl, e4, s23.trans s4, s4 _ _ eL, [], s4 _ _ eS, .nil⟩ (fun i σ H ⟨_, _, _, _, e, _⟩ => SqL.of e) ?_ ?_
    · rintro i xv T' σ H hxv ⟨v5, v6, v7, rfl, e2p, sH, eL, qs, eS, rw0⟩ hT'
      rw [List.getElem?_map] at hxv
      obtain ⟨wl, hwl, rfl⟩ := Option.map_eq_some_iff.mp hxv
      obtain ⟨l, row, hl, hrow, rfl⟩ := lines_at hwl
      obtain ⟨rowr, rowb⟩ := ok.bs row (List.mem_of_getElem? hrow)
      have l20 := ok.ns l (List.mem_of_getElem? hl)
      have hi : i < ns.length := (List.getElem?_eq_some_iff.mp hl).1
      have sT := Same.upd (o := .tup [.int (1 + (i : Nat)), .str (lineOf l row)]) hT'
      have eT := new_at' (o := .tup [.int (1 + (i : Nat)), .str (lineOf l row)]) hT'
      generalize upd H T' (.tup [.int (1 + (i : Nat)), .str (lineOf l row)]) = H5 at sT eT ⊢
      refine ⟨T', _, rfl, SqT.of eT, rfl, _, _, rfl, _, _, rfl, rfl, ?_⟩
      refine ⟨_, rfl, _, rfl, l, r, row, rfl, rowr, r1, r4, l20.1, l20.2, rowb, fun H6 p3 s6 hp3 => ?_⟩
      have sA := sT.trans s6
      refine ⟨_, rfl, _, _, rfl, rfl, _, rfl, ite2 (fun c => ?_) (fun _ => ?_)⟩
      · have c := of_decide_eq_true c
        omega
      refine ⟨_, rfl, rfl, _, rfl, ite2 (fun c => ?_) (fun _ => ?_)⟩
      · have c := of_decide_eq_true c
        cases c
      refine ⟨_, rfl, .inl ⟨rfl, _, SqL.of (sA _ _ eL)⟩, _, rfl, p3, _, 0, V.int (l : Int), rfl, rfl, SqT.of hp3, atI_nat (j := 0) rfl, L, _, _, rfl, rfl, sA _ _ eL, ?_, ?_⟩
      · rw [List.length_map, List.length_take, natI_len]
        exact small1000 (by omega)
      have kL : ∀ (q : Addr) (xs : List V), H6 q = some (.tup xs) → upd H6 L (.lst (((natI ns).take i).map V.int ++ [.int (l : Int)])) q = some (.tup xs) := fun q xs z => by rw [upd_ne (ne_of z (sA _ _ eL) (by intro y; cases y))]; exact z
      have eS7 : upd H6 L (.lst (((natI ns).take i).map V.int ++ [.int (l : Int)])) S = some (.lst (qs.map V.ref)) := by rw [upd_ne (Ne.symm nLS)]; exact sA _ _ eS
      have eL7 : upd H6 L (.lst (((natI ns).take i).map V.int ++ [.int (l : Int)])) L = some (.lst (((natI ns).take (i + 1)).map V.int)) := by rw [upd_same, take_nat hl, List.map_append]; rfl
      have e27 : upd H6 L (.lst (((natI ns).take i).map V.int ++ [.int (l : Int)])) p2 = some (.lst ((linesOf ns bss).map V.str)) := by rw [upd_ne (Ne.symm nL2)]; exact sA _ _ e2p
      have s27 : Same H2 (upd H6 L (.lst (((natI ns).take i).map V.int ++ [.int (l : Int)]))) := fun c o z => by rw [upd_ne (ne_of_none z hL)]; exact sA _ _ (sH _ _ z)
      have p37 := kL _ _ hp3
      have rw7 := (rw0.imp fun q xs z => sA _ _ z).imp kL
      generalize upd H6 L (.lst (((natI ns).take i).map V.int ++ [.int (l : Int)])) = H7 at eS7 eL7 e27 s27 p37 rw7 ⊢
      refine ⟨_, rfl, .inl ⟨rfl, _, SqL.of eS7⟩, _, rfl, _, rfl, ?_⟩
      dsimp only [tNoPart]
      refine sl_by p37 fun p4 H8 s8 hp4 => ?_
      rw [show (natI (l :: row)).map V.int = .int (l : Int) :: (natI row).map V.int from rfl, cut_one] at hp4
      refine ⟨S, _, _, rfl, rfl, s8 _ _ eS7, ?_, ?_⟩
      · have := rw0.length
        unfold natR at this
        rw [List.length_map, List.length_take] at this
        rw [List.length_map]
        exact small1000 (by omega)
      have kS : ∀ (q : Addr) (xs : List V), H8 q = some (.tup xs) → upd H8 S (.lst (qs.map V.ref ++ [.ref p4])) q = some (.tup xs) := fun q xs z => by rw [upd_ne (ne_of z (s8 _ _ eS7) (by intro y; cases y))]; exact z
      refine ⟨_, _, _, rfl, ?_, ?_, ?_, qs ++ [p4], ?_, ?_⟩
      · rw [upd_ne (Ne.symm nS2)]
        exact s8 _ _ e27
      · intro c o z
        rw [upd_ne (ne_of_none z nS)]
        exact s8 _ _ (s27 _ _ z)
      · rw [upd_ne nLS]
        exact s8 _ _ eL7
      · rw [upd_same, List.map_append]
        rfl
      · rw [take_row hrow]
        exact ((rw7.imp fun q xs z => s8 _ _ z).imp kS).snoc (kS _ _ hp4)
    · rintro σ H ⟨v5, v6, v7, rfl, e2p, sH, eL, qs, eS, rw0⟩
      rw [List.length_map, ll, ← natI_len, List.take_length] at eL
      rw [List.length_map, ll, ok.same, List.take_length] at rw0
      refine ⟨_, rfl, L, _, rfl, .inl ⟨SqL.of eL, fun a ha => ?_⟩⟩
      have sa := Same.upd (o := .tup ((natI ns).map V.int)) ha
      have ea := new_at' (o := .tup ((natI ns).map V.int)) ha
      refine ⟨_, rfl, S, _, rfl, .inl ⟨SqL.of (sa _ _ eS), fun b hb => ?_⟩⟩
      have sb := Same.upd (o := .tup (qs.map V.ref)) hb
      have eb := new_at' (o := .tup (qs.map V.ref)) hb
      refine fun y dy ny ndy ne => made_talk ny ndy ne fun H9 s9 ⟨dz, hz⟩ => ⟨rfl, ?_⟩
      have sab := (sa.trans sb).trans s9
      exact k H9 y ((s1.trans s2).trans (sH.trans sab)) ⟨dz, a, b, qs, hz, s9 _ _ (sb _ _ ea), s9 _ _ eb, rw0.imp fun _ _ z => sab _ _ z⟩
end
end Rp

namespace Rp
open PySem PySem.Spec PyProof.Rows L2
theorem Fine.low {ls : List Int} {bs : List (List Int)} (h : Fine ls bs) : Low ls := ⟨Nat.le_trans h.most (by decide), fun n hn => by have := h.ls n hn; omega⟩
theorem Fine.lowR {ls : List Int} {bs : List (List Int)} (h : Fine ls bs) : LowRows bs := by
  obtain ⟨r, h1, h2, h3⟩ := h.bs
  refine ⟨by have := h.most; have := h.same; omega, fun row hr => ?_⟩
  obtain ⟨e, ok⟩ := h3 row hr
  exact ⟨by omega, fun n hn => by have := ok n hn; omega⟩
theorem But.same {w : Addr} {H H1 H2 : Hp} (b : But w H H1) (s : Same H1 H2) : But w H H2 := fun c o n h => s c o (b c o n h)
theorem Well.same {w : Addr} {H H' : Hp} (h : Well H w) (s : Same H H') : Well H' w := let ⟨a, b, c, h⟩ := h; ⟨a, b, c, s _ _ h⟩
theorem Same.but {w : Addr} {H H' : Hp} (s : Same H H') : But w H H' := fun c o _ h => s c o h
theorem TalkAt.but {C : Addr} {w : Addr} {H H' : Hp} {x : Addr} {ls : List Int} {bs : List (List Int)} (h : TalkAt C H x ls bs) (b : But w H H') (hw : Well H w) : TalkAt C H' x ls bs := by
  obtain ⟨dx, a, c, qs, h1, h2, h3, h4⟩ := h
  have hw' := hw
  obtain ⟨_, _, _, e⟩ := hw'
  exact ⟨dx, a, c, qs, b _ _ (ne_of h1 e (by intro z; cases z)) h1, b.tup hw _ _ h2, b.tup hw _ _ h3, h4.imp (b.tup hw)⟩
theorem new_at {H : Hp} {p : Addr} {o : HO} (_ : H p = none) : upd H p o p = some o := upd_same
theorem same_of_but {w : Addr} {H H1 H2 : Hp} (hw : H w = none) (s : Same H H1) (b : But w H1 H2) : Same H H2 := fun c o h => b c o (ne_of_none h hw) (s c o h)
theorem Fine.cons {ls : List Int} {bs : List (List Int)} (h : Fine ls bs) : ∃ r rs, bs = r :: rs := by
  cases bs with
  | nil =>
    have e : ls.length = 0 := h.same
    have := h.pos
    omega
  | cons r rs => exact ⟨r, rs, rfl⟩
end Rp

namespace Rp
open PySem PySem.Spec PyProof.Rows L2 TL
abbrev sText : Stmt := topS 21
abbrev sRight : Stmt := topS 22
theorem scText : FnScope ["_law_row", "_law_lengths", "_law_sizes", "_law_lines", "_law_number", "_law_line", "_law_bits"] ["_law_row"] (defScope sText) := ⟨rfl, rfl, rfl, by decide +kernel, rfl, by decide +kernel, by decide +kernel⟩
theorem scRight : FnScope ["_law_row", "_law_text_here", "_law_talk_here", "_law_found", "_law_back"] ["_law_row"] (defScope sRight) := ⟨rfl, rfl, rfl, by decide +kernel, rfl, by decide +kernel, by decide +kernel⟩
/-- the class, as the written part has it -/
structure TkE (K : PySem.W.Frag) (C fI fL fE fM : Addr) : Prop extends TkB K C fI where
  ln : PySem.W.findIn K (.ref C) "__len__" = some (some (.ref fL))
  lnf : PySem.W.isFn K (.ref fL) = true
  eq : PySem.W.findIn K (.ref C) "__eq__" = some (some (.ref fE))
  eqf : PySem.W.isFn K (.ref fE) = true
  mM : Meth K C "many_rates" fM
def spText : Sp := fun vs H Q _ => ∃ p r ns bss, vs = [.ref p] ∧ TalkRow H p (natI ns) (natR bss) ∧ TxOk r ns bss ∧ ∀ H', Same H H' → Q (.str (textOf r ns bss)) H'
def spRight : Sp := fun vs H Q _ => ∃ p r ns bss, vs = [.ref p] ∧ TalkRow H p (natI ns) (natR bss) ∧ TxOk r ns bss ∧ ∀ H', Same H H' → Q (.bl true) H'
/-- a line so far -/
def lineTo (l : Nat) (row : List Nat) (j : Nat) : Str := Txt.join (" " : Str) (num l :: (":" : Str) :: (row.take j).map num)
theorem lineTo_zero (l : Nat) (row : List Nat) : num l ++ (" :" : Str) = lineTo l row 0 := by
  refine ext_tl ?_
  unfold lineTo
  rw [tl_append, tl_joins, tl_space, List.take_zero]
  show tl (num l) ++ tl (" :" : Str) = tl (num l) ++ ([32] ++ tl (":" : Str))
  rw [show tl (" :" : Str) = [32] ++ tl (":" : Str) by decide +kernel]
theorem lineTo_succ {l : Nat} {row : List Nat} {j b : Nat} (h : row[j]? = some b) : lineTo l row j ++ (" " : Str) ++ num b = lineTo l row (j + 1) := by
  unfold lineTo
  obtain ⟨hm, e⟩ := List.getElem?_eq_some_iff.mp h
  rw [List.take_succ_eq_append_getElem hm, e, List.map_append, ← join_snoc (by simp)]
  rfl
theorem lineTo_end (l : Nat) (row : List Nat) : lineTo l row row.length = lineOf l row := by
  unfold lineTo lineOf wordsOf
  rw [List.take_length]
theorem lineTo_len {l : Nat} {row : List Nat} {j : Nat} (hl : l < 10000) (hr : ∀ b ∈ row, b < 10000) (h4 : row.length ≤ 4) : (lineTo l row j).length ≤ 30 := by
  have := line_len (l := l) (row := row.take j) hl (fun b hb => hr b (List.mem_of_mem_take hb))
  have e : (row.take j).length ≤ 4 := by rw [List.length_take]; omega
  have : (lineTo l row j).length ≤ ((row.take j).length + 2) * 5 := this
  omega
theorem TxOk.low {r : Nat} {ns : List Nat} {bss : List (List Nat)} (ok : TxOk r ns bss) : Low (natI ns) := by
  refine ⟨by rw [natI_len]; exact Nat.le_trans ok.most (by decide), fun n hn => ?_⟩
  obtain ⟨m, hm, rfl⟩ := List.mem_map.mp (show n ∈ ns.map (fun n : Nat => (n : Int)) from hn)
  have := ok.ns m hm
  omega
theorem TxOk.lowR {r : Nat} {ns : List Nat} {bss : List (List Nat)} (ok : TxOk r ns bss) : LowRows (natR bss) := by
  refine ⟨by unfold natR; rw [List.length_map, ← ok.same]; exact Nat.le_trans ok.most (by decide), fun row hr => ?_⟩
  obtain ⟨bs, hb, rfl⟩ := List.mem_map.mp (show row ∈ bss.map natI from hr)
  obtain ⟨e, ok2⟩ := ok.bs bs hb
  have := ok.r4
  refine ⟨by rw [natI_len]; omega, fun n hn => ?_⟩
  obtain ⟨m, hm, rfl⟩ := List.mem_map.mp (show n ∈ bs.map (fun n : Nat => (n : Int)) from hn)
  have := ok2 m hm
  omega
theorem TxOk.cons {r : Nat} {ns : List Nat} {bss : List (List Nat)} (ok : TxOk r ns bss) : ∃ row0 rest, bss = row0 :: rest := by
  cases bss with
  | nil => exact absurd ok.pos (by have := ok.same; rw [List.length_nil] at this; omega)
  | cons a l => exact ⟨a, l, rfl⟩
section
variable {P : Program} {w : World} {K : PySem.W.Frag} {mg : Str → Option Value} {base : Heap} {C fI fM fW fL fE : Addr} {fdM fdW fdI fdE fdL : FuncData} {t1 t2 t3 t4 : Tok}
theorem ok_text {fd fX : _} (F : Fun K "_law_text" "_law_text" sText fX fd) (B : Bi mg) (mS : mg "str" = none) : FnOk P w K mg base CX0 1 fX fd ["_law_row"] spText := by
  refine F.ok scText (fun vs H Q E h => ?_) (fun cdv A outer s H0 vs Q E hr h => ?_)
  · obtain ⟨_, _, _, _, rfl, _⟩ := h
    rfl
  · have nd := scText.nd
    refine ⟨_, pss_cons (ps_asg (pv 0) (pg_tup rfl (pgs_cons (pg_name (i := 1) nd rfl (Or.inl rfl)) (pgs_cons (pg_name (i := 2) nd rfl (Or.inl rfl)) (pgs_nil)))))
    (pss_cons (ps_set (i := 3) nd rfl (Or.inl rfl) (pe_lst (pa_cons (pe_op op_add_str (pe_str) (pe_callTy call_str_int (by rfl) mS boot_str (pa_cons (pe_callB call_len_seq (by rfl) B.len PySem.boot_len (pa_cons (pe_ix ix_tup (pv 2) (pe_int) (fun _ _ => rfl)) pa_nil)) pa_nil))) pa_nil)))
    (pss_cons (ps_for PassesOwn.never rfl (pi_range1 (by rfl) B.range (pa_cons (pe_callB call_len_seq (by rfl) B.len PySem.boot_len (pa_cons (pv 1) pa_nil)) pa_nil)) (pg_name (i := 4) nd rfl (Or.inl rfl)) (pss_cons (ps_set (i := 5) nd rfl (Or.inl rfl) (pe_op op_add_str (pe_callTy call_str_int (by rfl) mS boot_str (pa_cons (pe_ix ix_tup (pv 1) (pv 4) (fun _ _ => rfl)) pa_nil)) (pe_str)))
      (pss_cons (ps_for PassesOwn.never rfl (pi_tup (pe_ix ix_tup (pv 2) (pv 4) (fun _ _ => rfl))) (pg_name (i := 6) nd rfl (Or.inl rfl)) (pss_one (ps_set (i := 5) nd rfl (Or.inl rfl) (pe_op op_add_str (pe_op op_add_str (pv 5) (pe_str)) (pe_callTy call_str_int (by rfl) mS boot_str (pa_cons (pv 6) pa_nil))))))
      (pss_one (ps_expr (pe_bm PySem.F.plainAttrs_list PySem.F.slot_list_append PySem.F.type_list_append mt_append (pv 3) (pa_cons (pv 5) pa_nil)))))))
    (pss_one (ps_ret (pe_join (pe_str) (pv 3)))))), ?_⟩
    obtain ⟨p, r, ns, bss, rfl, row, ok, k⟩ := h
    obtain ⟨row0, rest, rfl⟩ := ok.cons
    obtain ⟨a, b, qs, h1, h2, h3, h4⟩ := id row
    have ez : sizeLine = 16777216 := sizeLine_eq
    have er : row0.length = r := (ok.bs row0 List.mem_cons_self).1
    have r4 := ok.r4
    have lm := ok.most
    have ll := linesOf_len ns (row0 :: rest) ok.same
    obtain ⟨q0, qr, rfl⟩ : ∃ q0 qr, qs = q0 :: qr := by
      cases h4 with
      | cons _ _ => exact ⟨_, _, rfl⟩
    obtain ⟨rw0, hrw0, hq0⟩ := rows_at (i := 0) h4 rfl
    have erw : row0 = rw0 := Option.some.inj hrw0
    subst erw
    refine ⟨_, rfl, p, _, rfl, SqT.of h1, rfl, _, _, rfl, _, _, rfl, rfl, ?_⟩
    refine ⟨_, rfl, b, _, 0, _, rfl, rfl, SqT.of h3, atI_nat (j := 0) rfl, q0, _, rfl, .inr (SqT.of hq0), ?_⟩
    rw [List.length_map, natI_len, er]
    have e6 : (("rates " : Str)).length = 6 := by decide +kernel
    have e7 := num_len (n := r) (by omega)
    refine ⟨_, rfl, Nat.lt_trans (log_lt (k := 30) (by decide) (by omega)) (by decide), _, _, rfl, rfl, by rw [e6, ez]; exact Nat.le_trans (Nat.add_le_add_left e7 _) (by decide), (by show 1 ≤ sizeLine; decide), fun L hL => ?_⟩
    have s1 := Same.upd (o := .lst [V.str (headOf r)]) hL
    have eL : upd H0 L (.lst [V.str (("rates " : Str) ++ Str.ofString (toString ((r : Nat) : Int)))]) L = some (.lst ((headOf r :: (linesOf ns (row0 :: rest)).take 0).map V.str)) := upd_same
    have s1 : Same H0 (upd H0 L (.lst [V.str (("rates " : Str) ++ Str.ofString (toString ((r : Nat) : Int)))])) := Same.upd hL
    generalize upd H0 L (.lst [V.str (("rates " : Str) ++ Str.ofString (toString ((r : Nat) : Int)))]) = H1 at s1 eL ⊢
    refine ⟨_, rfl, a, _, rfl, .inr (SqT.of (s1 _ _ h2)), ?_⟩
    rw [List.length_map, natI_len]
    refine ⟨_, rfl, (by omega), (by omega), for_range (lo := 0) (n := ns.length) (fun i σ H => ∃ v4 v5 v6, σ = [some (.ref p), some (.ref a), some (.ref b), some (.ref L), v4, v5, v6] ∧ H L = some (.lst ((headOf r :: (linesOf ns (row0 :: rest)).take i).map V.str)) ∧ Same H0 H) ⟨_, _, _, rfl, eL, s1⟩ ?_ ?_⟩
    · rintro i σ H hi ⟨v4, v5, v6, rfl, eL, sH⟩
      have e0 : (0 + (i : Int)) = (i : Int) := by omega
      rw [e0]
      obtain ⟨l, hl⟩ : ∃ l, ns[i]? = some l := ⟨_, List.getElem?_eq_getElem hi⟩
      obtain ⟨q, hq⟩ : ∃ q, (q0 :: qr)[i]? = some q := ⟨_, List.getElem?_eq_getElem (by have := h4.length; unfold natR at this; rw [List.length_map] at this; rw [this, ← ok.same]; exact hi)⟩
      obtain ⟨rowi, hrow, hqr⟩ := rows_at h4 hq
      obtain ⟨rowr, rowb⟩ := ok.bs rowi (List.mem_of_getElem? hrow)
      have l20 := ok.ns l (List.mem_of_getElem? hl)
      have rb4 : ∀ b ∈ rowi, b < 10000 := fun b hb => by have := rowb b hb; omega
      have e8 := num_len (n := l) (by omega)
      refine ⟨_, rfl, _, rfl, a, _, i, _, rfl, rfl, SqT.of (sH _ _ h2), atI_nat (natI_get hl), l, rfl, Nat.lt_trans (log_lt (k := 30) (by decide) (by omega)) (by decide), _, _, rfl, rfl, by rw [show ((" :" : Str)).length = 2 by decide +kernel, ez]; exact Nat.le_trans (Nat.add_le_add_right e8 _) (by decide), ?_⟩
      refine ⟨_, rfl, _, rfl, b, _, i, _, rfl, rfl, SqT.of (sH _ _ h3), atI_nat (by rw [List.getElem?_map, hq]; rfl), q, rfl, ⟨_, SqT.of (sH _ _ hqr)⟩, ?_⟩
      refine for_tup (K := K) (a := q) (xs := (natI rowi).map V.int) (fun j σ H' => ∃ v6, σ = [some (.ref p), some (.ref a), some (.ref b), some (.ref L), some (.int (i : Nat)), some (.str (lineTo l rowi j)), v6] ∧ H' = H) ⟨v6, by rw [← lineTo_zero]; rfl, rfl⟩ (fun j σ H' _ ⟨_, _, e⟩ => by rw [e]; exact SqT.of (sH _ _ hqr)) ?_ ?_
      · rintro j y σ H' hy ⟨v6, rfl, rfl⟩
        rw [List.getElem?_map] at hy
        obtain ⟨z, hz, rfl⟩ := Option.map_eq_some_iff.mp hy
        unfold natI at hz
        rw [List.getElem?_map] at hz
        obtain ⟨c, hc, rfl⟩ := Option.map_eq_some_iff.mp hz
        have c2 := rb4 c (List.mem_of_getElem? hc)
        have q1 := lineTo_len (l := l) (row := rowi) (j := j) (by omega) rb4 (by omega)
        have q2 := num_len (n := c) c2
        have q3 : ((" " : Str)).length = 1 := by decide +kernel
        have q4 : (lineTo l rowi j ++ (" " : Str)).length ≤ 31 := by rw [strLen_append, q3]; omega
        refine ⟨_, rfl, _, _, rfl, rfl, by rw [q3, ez]; omega, _, rfl, _, rfl, Nat.lt_trans (log_lt (k := 30) (by decide) (by omega)) (by decide), _, _, rfl, rfl, by rw [ez]; exact Nat.le_trans (Nat.add_le_add q4 q2) (by decide), ?_⟩
        exact ⟨_, by rw [← lineTo_succ hc]; rfl, rfl⟩
      · rintro σ H' ⟨v6, rfl, rfl⟩
        rw [List.length_map, natI_len, lineTo_end]
        refine ⟨_, rfl, .inl ⟨rfl, _, SqL.of eL⟩, _, rfl, L, _, _, rfl, rfl, eL, ?_, ?_⟩
        · rw [List.length_map, List.length_cons, List.length_take]
          exact small1000 (by omega)
        · refine ⟨_, _, _, rfl, ?_, ?_⟩
          · rw [upd_same, zip_take hl hrow, ← List.cons_append, List.map_append]
            rfl
          · intro c' o' q'
            rw [upd_ne (ne_of_none q' hL)]
            exact sH _ _ q'
    · rintro σ H ⟨v4, v5, v6, rfl, eL, sH⟩
      rw [← ll, List.take_length] at eL
      refine ⟨⟨_, rfl⟩, _, rfl, _, L, headOf r :: linesOf ns (row0 :: rest), rfl, rfl, .inl (SqL.of eL), ?_, k _ sH⟩
      have qs := sum_le (n := 13) (k := 30) (ns := (headOf r :: linesOf ns (row0 :: rest)).map (fun z => z.length)) (by rw [List.length_map, List.length_cons]; omega) (fun z hz => by
        obtain ⟨w, hw, rfl⟩ := List.mem_map.mp hz
        rcases List.mem_cons.mp hw with rfl | hw
        · have e9 : (headOf r).length = ("rates " : Str).length + (num r).length := strLen_append _ _
          rw [e9, e6]
          omega
        · exact lines_len ok w hw)
      have e1 : (("\n" : Str)).length = 1 := by decide +kernel
      rw [e1, List.length_cons]
      omega
end
end Rp

namespace Rp
open PySem PySem.Spec PyProof.Rows L2 TL
section
variable {P : Program} {w : World} {K : PySem.W.Frag} {mg : Str → Option Value} {base : Heap} {C fI fM fL fE fX fS fT : Addr} {fdI fdE fdL fdX fdS fdT : FuncData}
theorem ok_right {f : Addr} {fd : FuncData} (F : Fun K "_law_right" "_law_right" sRight f fd) (B : Bi mg) (T : TkE K C fI fL fE fM) (mC : mg "Talk" = some (.ref C)) (mS : mg "str" = none) (mI : mg "isinstance" = none) (mR : mg "repr" = none) (mSum : mg "sum" = none)
    (FI : Fun K "__init__" "Talk.__init__" sInit fI fdI) (bI : L2.Binds K fdI ["self", "lengths", "sizes"] []) (FE : Fun K "__eq__" "Talk.__eq__" sEq fE fdE) (bE : L2.Binds K fdE ["self", "other"] []) (FL : Fun K "__len__" "Talk.__len__" sLen fL fdL) (bL : L2.Binds K fdL ["self"] [])
    (FX : Fun K "_law_text" "_law_text" sText fX fdX) (mX : mg "_law_text" = some (.ref fX)) (bX : L2.Binds K fdX ["_law_row"] [])
    (FS : Fun K "show_talk" "show_talk" sShow fS fdS) (GS : FnOk P w K mg base CX0 2 fS fdS ["talk"] (spShow C)) (mSh : mg "show_talk" = some (.ref fS)) (bS : L2.Binds K fdS ["talk"] [])
    (FT : Fun K "read_talk" "read_talk" sRead fT fdT) (GT : FnOk P w K mg base CX0 4 fT fdT ["text"] (spRead C)) (mT : mg "read_talk" = some (.ref fT)) (bT : L2.Binds K fdT ["text"] []) : FnG P w K mg base CX0 5 f fd ["_law_row"] spRight := by
  have GI : FnOk P w K mg base CX0 1 fI fdI ["self", "lengths", "sizes"] (spInit C) := ok_init FI T.toTkB
  have GE : FnOk P w K mg base CX0 1 fE fdE ["self", "other"] (spEq (EqT C)) := ok_eq FE T.toTkB mC mI
  have GL : FnOk P w K mg base CX0 1 fL fdL ["self"] (spLen C) := ok_len FL T.toTkB B mSum
  have GX : FnOk P w K mg base CX0 1 fX fdX ["_law_row"] spText := ok_text FX B mS
  refine okG F scRight (fun vs H Q E h => ?_) (fun cdv A outer s H0 vs Q E gA hr h => ?_)
  · obtain ⟨_, _, _, _, rfl, _⟩ := h
    rfl
  · have nd := scRight.nd
    have hr1 : Room 1 _ := hr.mono (by decide)
    have hr2 : Room 2 _ := hr.mono (by decide)
    refine ⟨_, pss_cons (ps_set (i := 1) nd rfl (Or.inl rfl) (pe_call GX hr1 (by rfl) mX FX.kp bX .nil pass0 (pa_cons (pv 0) pa_nil)))
    (pss_cons (ps_set (i := 2) nd rfl (Or.inl rfl) (pe_make T.make GI hr2 (by rfl) mC bI .nil pass0 (pa_cons (pe_ix ix_tup (pv 0) (pe_int) (fun _ _ => rfl)) (pa_cons (pe_ix ix_tup (pv 0) (pe_int) (fun _ _ => rfl)) pa_nil))))
    (pss_cons (ps_set (i := 3) nd rfl (Or.inl rfl) (pe_call GS hr2 (by rfl) mSh FS.kp bS .nil pass0 (pa_cons (pv 2) pa_nil)))
    (pss_cons (ps_if (PW.pt (pw_or (pt_not (pt_val (pe_callB call_isi (by rfl) mI (by decide +kernel) (pa_cons (pv 3) (pa_cons (pe_bltn (v := .ty "str") (by rfl) mS (by decide +kernel) rfl) pa_nil))))) (pw_or1 (pt_cmpR op_ne (pv 3) (pv 1) (nomark _))))) (pss_one (ps_ret (pe_bl))) (pss_nil))
    (pss_cons (ps_set (i := 4) nd rfl (Or.inl rfl) (pe_call GT hr (by rfl) mT FT.kp bT .nil pass0 (pa_cons (pv 1) pa_nil)))
    (pss_cons (ps_if (PW.pt (pw_or (pt_not (pt_val (pe_callB call_isi (by rfl) mI (by decide +kernel) (pa_cons (pv 4) (pa_cons (pe_glob (v := .ref C) (by rfl) mC rfl) pa_nil))))) (pw_or1 (pt_cmpR op_ne (pe_callB (call_reprD gA hr.units) (by rfl) mR boot_repr (pa_cons (pe_tup (pa_cons (pe_fld (pv 4) rfl) (pa_cons (pe_fld (pv 4) rfl) pa_nil))) pa_nil)) (pe_callB (call_reprD gA hr.units) (by rfl) mR boot_repr (pa_cons (pv 0) pa_nil)) (nomark _))))) (pss_one (ps_ret (pe_bl))) (pss_nil))
    (pss_one (ps_ret (pe_and (pe_cmpR (op_eqG (rcG_ins GE T.eq T.eqf bE pass0) hr1) (pv 4) (pv 2) (nomark _)) (pe_and (pe_cmpR op_eq (pe_call GS hr2 (by rfl) mSh FS.kp bS .nil pass0 (pa_cons (pv 4) pa_nil)) (pv 1) (nomark _)) (pe_one (pe_cmpR op_eq (pe_callB (call_lenI (E := fun _ _ _ => False) GL T.ln T.lnf bL pass0 hr2) (by rfl) B.len PySem.boot_len (pa_cons (pv 4) pa_nil)) (pe_callB (call_sumT rfl) (by rfl) mSum PyProof.Rows.boot_sum (pa_cons (pe_ix ix_tup (pv 0) (pe_int) (fun _ _ => rfl)) pa_nil)) (nomark _)))))))))))), ?_⟩
    obtain ⟨p, r, ns, bss, rfl, row, ok, k⟩ := h
    have lo := ok.low
    have lor := ok.lowR
    have sm := talk_sml lo lor
    obtain ⟨a, b, qs, h1, h2, h3, h4⟩ := id row
    refine ⟨_, rfl, p, r, ns, bss, rfl, row, ok, fun H1 s1 => ?_⟩
    refine ⟨_, rfl, p, _, 0, _, rfl, rfl, SqT.of (s1 _ _ h1), at_of (j := 0) rfl rfl, _, rfl, p, _, 1, _, rfl, rfl, SqT.of (s1 _ _ h1), at_of (j := 1) rfl rfl, ?_⟩
    refine fun x dx nx ndx ne => made_talk nx ndx ne fun H2 s2 ⟨dx, hx⟩ => ⟨rfl, ?_⟩
    have s12 := s1.trans s2
    have tx : TalkAt C H2 x (natI ns) (natR bss) := ⟨dx, a, b, qs, hx, s12 _ _ h2, s12 _ _ h3, h4.imp fun _ _ e => s12 _ _ e⟩
    refine ⟨_, rfl, x, r, ns, bss, rfl, tx, ok, fun H3 s3 => ?_⟩
    refine ⟨_, rfl, _, _, _, _, true, rfl, .ty "str", .base (.str _), kit_ty (by decide +kernel), true, rfl, iteF ?_⟩
    refine ⟨_, rfl, _, rfl, rfl, _, rfl, iteNS rfl ?_⟩
    refine ⟨_, rfl, r, ns, bss, rfl, ok, fun H4 y s4 hy => ?_⟩
    obtain ⟨dy, a', b', qs', g1, g2, g3, g4⟩ := id hy
    refine ⟨_, rfl, _, _, _, _, true, rfl, .own C, T.ty g1, kit_self, true, rfl, iteF ?_⟩
    refine ⟨_, rfl, y, C, dy, _, _, rfl, g1, T.cl, T.nl, rfl, _, rfl, y, C, dy, _, _, rfl, g1, T.cl, T.ns, rfl, (by show 2 ≤ sizeLine; decide), fun t ht => ?_⟩
    have s5 := Same.upd (o := .tup [.ref a', .ref b']) ht
    have row2 : TalkRow _ t (natI ns) (natR bss) := ⟨a', b', qs', new_at' (o := .tup [.ref a', .ref b']) ht, s5 _ _ g2, s5 _ _ g3, g4.imp fun _ _ e => s5 _ _ e⟩
    generalize upd H4 t (.tup [.ref a', .ref b']) = H5 at s5 row2 ⊢
    have s05 := ((s12.trans s3).trans s4).trans s5
    refine ⟨_, dTalk (natI ns) (natR bss), rfl, row2.dp, sm.shw (by decide) (by decide), _, rfl, _, dTalk (natI ns) (natR bss), rfl, (row.same s05).dp, sm.shw (by decide) (by decide), rfl, _, rfl, iteNS rfl ?_⟩
    have tx5 := ((tx.same s3).same s4).same s5
    have ty5 := hy.same s5
    obtain ⟨dx5, _, _, _, hx5, _⟩ := id tx5
    obtain ⟨dy5, _, _, _, hy5, _⟩ := id ty5
    refine ⟨_, rfl, _, rfl, ⟨y, x, dy5, dx5, _, _, rfl, rfl, hy5, hx5, natI ns, natR bss, ty5, tx5, lo, lor⟩, fun H6 s6 => ?_⟩
    have tb := sum_le ok.most (fun l hl => (ok.ns l hl).2)
    have ty6 := ty5.same s6
    refine ⟨true, rfl, iteT ?_⟩
    refine ⟨_, rfl, y, r, ns, bss, rfl, ty6, ok, fun H7 s7 => ⟨_, rfl, rfl, _, rfl, ?_⟩⟩
    rw [decide_eq_true rfl]
    have ty7 := ty6.same s7
    obtain ⟨dy7, _, _, _, hy7, _⟩ := id ty7
    refine iteT ⟨_, rfl, y, dy7, _, rfl, hy7, y, ns, _, rfl, ty7, (by omega), fun H8 s8 => ⟨ns.sum, rfl, (by omega), ?_⟩⟩
    have s08 := ((s05.trans s6).trans s7).trans s8
    refine ⟨_, rfl, p, _, 0, _, rfl, rfl, SqT.of (s08 _ _ h1), at_of (j := 0) rfl rfl, a, natI ns, rfl, SqT.of (s08 _ _ h2), rfl, ?_⟩
    rw [natI_sum, decide_eq_true rfl]
    exact k H8 s08
end
/-! ### a tuple times a number, one of them, too -/
theorem tuple_mul1 (l : Addr) (items : Array Value) (n : Nat) (dd : Option Addr) (sl : Array (Option Value)) (u : Tok) :
    Meets (Builtin.«tuple.__mul__» ⟨[.ref l, .int 1 u], []⟩) (fun _ R s => s.heap.get? l = some { cls := .type "tuple", dict := dd, data := .seq items n, slots := sl } ∧ R (.ok (.ret (Value.ref l))) s) :=
  .of_wp fun prog w A R s h => by
    obtain ⟨hp, g, d, tk, os⟩ := s
    obtain ⟨hl, h⟩ := h
    have f1 := AutoSeq1.idx_int
    wp_walk using AutoSeq1.wpAny_loadPart' hl
    exact ⟨_, rfl, h⟩
def rRepA (K : PySem.W.Frag) : R2 := fun x y H Q => ∃ l k xs, x = .ref l ∧ y = .int k ∧ H l = some (.tup xs) ∧ xs ≠ [] ∧ 1 ≤ k ∧ k ≤ 1000 ∧ xs.length ≤ 1000 ∧ ∀ p H', Same H H' → H' p = some (.tup (List.replicate k.toNat xs).flatten) → Q (.ref p) H'
theorem op_repA {X : Cx} : OpR X (binaryOp .Mult) (rRepA X.K) := by
  intro pins s σ H x y v u Q I rx ry h
  obtain ⟨l, k, xs, rfl, rfl, hT, hne, h1, h2, hz, q⟩ := h
  by_cases c : k = 1
  · subst c
    cases rx
    obtain ⟨t, rfl⟩ := ry
    obtain ⟨its, r, ⟨⟨cls, dd, data, sl⟩, ho, hc, n, hd⟩, hs⟩ := I.tuple (SqT.of hT)
    simp only at hc hd
    subst hc hd
    refine wpAny_binaryOp_repeat_ref (T := "tuple") (U := "int") (by decide) ⟨_, ho, rfl⟩ (fun s' => typeIs_int s' 1 t) noFill_tuple_mul PySem.F.fills_int_mul PySem.F.slot_int_rmul repeat_tuple PySem.F.slot_int_index.lookup
      (call_meets PySem.F.slot_int_rmul (typeIs_int s 1 t) PySem.F.entry_int_rmul (PySem.F.args_int_rmul_2 _ _) (int_rmul_tuple 1 t l its.toArray n dd sl)
        ⟨ho, rfl, ⟨_, ho, rfl⟩, call_meets PySem.F.slot_tuple_mul ⟨_, ho, rfl⟩ PySem.F.entry_tuple_mul (PySem.F.args_tuple_mul_2 _ _) (tuple_mul1 l its.toArray n dd sl t) ⟨ho, ?_⟩⟩)
    refine ⟨.ref l, H, I, rfl, q l H (Same.refl H) ?_⟩
    rw [hT]
    simp
  · exact op_repT pins s σ H _ _ v u Q I rx ry ⟨l, k, xs, rfl, rfl, SqT.of hT, hne, by omega, h2, hz, fun p hp => q p _ (Same.upd hp) upd_same⟩
theorem rep_nat (v : Nat) : ∀ n : Nat, (List.replicate n [V.int (v : Int)]).flatten = (natI (List.replicate n v)).map V.int
  | 0 => rfl
  | n + 1 => by
    have ih := rep_nat v n
    rw [List.replicate_succ, List.flatten_cons, ih, List.replicate_succ]
    rfl
/-! ### the rows -/
structure RowsIn (R : Addr) (ps : List Addr) (H : Hp) : Prop where
  at_ : H R = some (.lst (ps.map V.ref))
  ok : ∀ p ∈ ps, ∃ r ns bss, TalkRow H p (natI ns) (natR bss) ∧ TxOk r ns bss
theorem RowsIn.same {R : Addr} {ps : List Addr} {H H' : Hp} (x : RowsIn R ps H) (s : Same H H') : RowsIn R ps H' := ⟨s _ _ x.at_, fun p hp => let ⟨r, ns, bss, h, o⟩ := x.ok p hp; ⟨r, ns, bss, h.same s, o⟩⟩
theorem RowsIn.but {R w : Addr} {ps : List Addr} {H H' : Hp} (x : RowsIn R ps H) (b : But w H H') (hw : Well H w) (n : w ≠ R) : RowsIn R ps H' := ⟨b _ _ (Ne.symm n) x.at_, fun p hp => let ⟨r, ns, bss, h, o⟩ := x.ok p hp; ⟨r, ns, bss, h.imp (b.tup hw), o⟩⟩
theorem RowsIn.push {R p : Addr} {ps : List Addr} {H : Hp} {r : Nat} {ns : List Nat} {bss : List (List Nat)} (x : RowsIn R ps H) (h : TalkRow H p (natI ns) (natR bss)) (o : TxOk r ns bss) : RowsIn R (ps ++ [p]) (upd H R (.lst (ps.map V.ref ++ [.ref p]))) := by
  have k : ∀ (q : Addr) (xs : List V), H q = some (.tup xs) → upd H R (.lst (ps.map V.ref ++ [.ref p])) q = some (.tup xs) := fun q xs z => by rw [upd_ne (ne_of z x.at_ (by intro y; cases y))]; exact z
  refine ⟨by rw [upd_same, List.map_append]; rfl, fun q hq => ?_⟩
  rcases List.mem_append.mp hq with hq | hq
  · obtain ⟨r', ns', bss', h', o'⟩ := x.ok q hq
    exact ⟨r', ns', bss', h'.imp k, o'⟩
  · rw [List.mem_singleton.mp hq]
    exact ⟨r, ns, bss, h.imp k, o⟩
end Rp

namespace Rp
open PySem PySem.Spec PyProof.Rows L2 TL
abbrev sLaw : Stmt := topS 23
theorem scLaw : FnScope ["_law_script", "_law_rows", "_law_k", "_law_well_here", "_law_first", "_law_bits", "_law_turn", "_law_few", "_law_row"] ["_law_script"] (defScope sLaw) := ⟨rfl, rfl, rfl, by decide +kernel, rfl, by decide +kernel, by decide +kernel⟩
def spLaw (K : PySem.W.Frag) : Sp := fun vs H Q _ => ∃ (a : Addr) (ns : List Int), vs = [.ref a] ∧ SqL K H a (ns.map V.int) ∧ ∀ H', Q (.bl true) H'
section
variable {P : Program} {w : World} {K : PySem.W.Frag} {mg : Str → Option Value} {base : Heap} {fW fT fK fR : Addr} {fdW fdT fdK fdR : FuncData}
theorem ok_law {f : Addr} {fd : FuncData} (F : Fun K "law" "law" sLaw f fd) (B : Bi mg) (mMin : mg "min" = none) (mMax : mg "max" = none)
    (FW : Fun K "_law_well" "_law_well" sWell fW fdW) (mW : mg "_law_well" = some (.ref fW)) (bW : L2.Binds K fdW ["_law_script", "_law_k"] [])
    (FT : Fun K "_law_take" "_law_take" sTake fT fdT) (mT : mg "_law_take" = some (.ref fT)) (bT : L2.Binds K fdT ["_law_well_here", "_law_top"] [])
    (FK : Fun K "_law_talk" "_law_talk" sTalk fK fdK) (mK : mg "_law_talk" = some (.ref fK)) (bK : L2.Binds K fdK ["_law_well_here"] [])
    (FR : Fun K "_law_right" "_law_right" sRight fR fdR) (GR : FnG P w K mg base CX0 5 fR fdR ["_law_row"] spRight) (mR : mg "_law_right" = some (.ref fR)) (bR : L2.Binds K fdR ["_law_row"] []) : FnG P w K mg base CX0 6 f fd ["_law_script"] (spLaw K) := by
  have GW : FnOk P w K mg base CX0 1 fW fdW ["_law_script", "_law_k"] (spWell K) := ok_well FW B
  have GT : FnOk P w K mg base CX0 1 fT fdT ["_law_well_here", "_law_top"] spTake := ok_take FT
  have GK : FnOk P w K mg base CX0 2 fK fdK ["_law_well_here"] spTalk := ok_talk FK B FT mT bT
  refine okG F scLaw (fun vs H Q E h => ?_) (fun cdv A outer s H0 vs Q E gA hr h => ?_)
  · obtain ⟨_, _, rfl, _⟩ := h
    rfl
  · have nd := scLaw.nd
    have hr1 : Room 1 _ := hr.mono (by decide)
    have hr2 : Room 2 _ := hr.mono (by decide)
    refine ⟨_, pss_cons (ps_set (i := 1) nd rfl (Or.inl rfl) (pe_lst (pa_nil)))
    (pss_cons (ps_for PassesOwn.never rfl (pi_range1 (by rfl) B.range (pa_cons (pe_callB (call_max2 rfl) (by rfl) mMax (by decide +kernel) (pa_cons (pe_int) (pa_cons (pe_callB (call_min2 rfl) (by rfl) mMin (by decide +kernel) (pa_cons (pe_callB call_len_seq (by rfl) B.len PySem.boot_len (pa_cons (pv 0) pa_nil)) (pa_cons (pe_int) pa_nil))) pa_nil))) pa_nil)) (pg_name (i := 2) nd rfl (Or.inl rfl)) (pss_cons (ps_set (i := 3) nd rfl (Or.inl rfl) (pe_call GW hr1 (by rfl) mW FW.kp bW .nil pass0 (pa_cons (pv 0) (pa_cons (pv 2) pa_nil))))
      (pss_cons (ps_expr (pe_bm PySem.F.plainAttrs_list PySem.F.slot_list_append PySem.F.type_list_append mt_append (pv 1) (pa_cons (pe_call GK hr2 (by rfl) mK FK.kp bK .nil pass0 (pa_cons (pv 3) pa_nil)) pa_nil)))
      (pss_cons (ps_set (i := 4) nd rfl (Or.inl rfl) (pe_call GT hr1 (by rfl) mT FT.kp bT .nil pass0 (pa_cons (pv 3) (pa_cons (pe_int) pa_nil))))
      (pss_cons (ps_set (i := 5) nd rfl (Or.inl rfl) (pe_call GT hr1 (by rfl) mT FT.kp bT .nil pass0 (pa_cons (pv 3) (pa_cons (pe_int) pa_nil))))
      (pss_one (ps_for PassesOwn.never rfl (pi_range1 (by rfl) B.range (pa_cons (pe_int) pa_nil)) (pg_name (i := 6) nd rfl (Or.inl rfl)) (pss_cons (ps_set (i := 7) nd rfl (Or.inl rfl) (pe_op op_repA (pe_tup (pa_cons (pe_op op_add (pe_op op_mod (pe_op op_add (pv 5) (pe_op op_mul (pe_int) (pv 6))) (pe_int)) (pe_int)) pa_nil)) (pe_op op_add (pe_int) (pe_op op_mod (pv 6) (pe_int)))))
        (pss_one (ps_expr (pe_bm PySem.F.plainAttrs_list PySem.F.slot_list_append PySem.F.type_list_append mt_append (pv 1) (pa_cons (pe_tup (pa_cons (pe_tup (pa_cons (pe_op op_add (pe_op op_mod (pe_op op_add (pv 4) (pe_op op_mul (pe_int) (pv 6))) (pe_int)) (pe_int)) pa_nil)) (pa_cons (pe_tup (pa_cons (pv 7) pa_nil)) pa_nil))) pa_nil))))))))))))
    (pss_one (ps_ret (pe_cmpR (op_eqD hr.units) (pe_lc (own := [("_law_row", 8)]) (g := gName 8) rfl nd (pi_list (pe_op op_cat (pv 1) (pe_revL (pv 1)))) (blkOk_by (own := [("_law_row", 8)]) (N := ["_law_script", "_law_rows", "_law_k", "_law_well_here", "_law_first", "_law_bits", "_law_turn", "_law_few", "_law_row"]) (sc := defScope sLaw) (by decide +kernel)) (fun _ _ _ _ _ => pg_name (i := 8) nd rfl (Or.inl rfl)) (fun _ _ _ _ _ => pts_one (pt_not (pt_val (pe_callG GR gA hr (by rfl) mR FR.kp bR pass0 (pa_cons (pv 8) pa_nil))))) (fun _ _ _ _ _ => pv 8)) (pe_lst (pa_nil)) (nomark _))))), ?_⟩
    obtain ⟨a, ks, rfl, ha, k⟩ := h
    have ez : sizeLine = 16777216 := sizeLine_eq
    refine ⟨Nat.zero_le _, fun R hR => ?_⟩
    have sR := Same.upd (o := .lst []) hR
    have eR : RowsIn R [] (upd H0 R (.lst [])) := ⟨upd_same, fun _ z => nomatch z⟩
    generalize upd H0 R (.lst []) = HR at sR eR ⊢
    refine ⟨_, rfl, a, _, rfl, .inl (Same.seq sR ha), _, _, rfl, _, _, rfl, ?_⟩
    rw [List.length_map]
    obtain ⟨N, hN, hN4⟩ : ∃ N : Nat, (if (if (6 : Int) < (ks.length : Nat) then (6 : Int) else (ks.length : Nat)) > 1 then (if (6 : Int) < (ks.length : Nat) then (6 : Int) else (ks.length : Nat)) else 1) = (N : Int) ∧ N ≤ 6 := by
      by_cases c : (6 : Int) < (ks.length : Nat)
      · rw [if_pos c]
        exact ⟨6, rfl, by decide⟩
      · rw [if_neg c]
        by_cases e : ((ks.length : Nat) : Int) > 1
        · rw [if_pos e]
          exact ⟨ks.length, rfl, by omega⟩
        · rw [if_neg e]
          exact ⟨1, rfl, by decide⟩
    rw [hN]
    refine ⟨_, rfl, (by omega), (by omega), for_range (lo := 0) (n := N) (fun i σ H => ∃ v2 v3 v4 v5 v6 v7 v8, σ = [some (.ref a), some (.ref R), v2, v3, v4, v5, v6, v7, v8] ∧ ∃ ps, RowsIn R ps H ∧ ps.length = i * 6 ∧ Same H0 H) ⟨none, none, none, none, none, none, none, rfl, [], eR, rfl, sR⟩ ?_ ?_⟩
    · rintro i σ H hi ⟨v2, v3, v4, v5, v6, v7, v8, rfl, ps, rin, pl, sH⟩
      refine ⟨_, rfl, _, rfl, a, ks, i, (by show [V.ref a, V.int (0 + (i : Int))] = [V.ref a, V.int (i : Nat)]; rw [Int.zero_add]), Same.seq sH ha, fun w c0 c1 c2 hw => ?_⟩
      have s1 := Same.upd (o := .lst [.int c0, .int c1, .int c2]) hw
      have w1 : Well (upd H w (.lst [.int c0, .int c1, .int c2])) w := .upw
      have nwR : w ≠ R := Ne.symm (ne_of_none rin.at_ hw)
      generalize upd H w (.lst [.int c0, .int c1, .int c2]) = H1 at s1 w1 ⊢
      have r1 := rin.same s1
      refine ⟨_, rfl, .inl ⟨rfl, _, SqL.of r1.at_⟩, _, rfl, w, rfl, w1, fun H2 p ls bs bt2 w2 row fine => ?_⟩
      have s2 := same_of_but hw s1 bt2
      obtain ⟨r, ns, bss, rfl, rfl, ok⟩ := fine.tx
      have r2 := r1.but bt2 w1 nwR
      refine ⟨R, _, _, rfl, rfl, r2.at_, (by rw [List.length_map]; exact small1000 (by omega)), ?_⟩
      have r3 := r2.push row ok
      have w3 : Well (upd H2 R (.lst (ps.map V.ref ++ [.ref p]))) w := by
        obtain ⟨x0, x1, x2, e⟩ := w2
        exact ⟨x0, x1, x2, by rw [upd_ne nwR]; exact e⟩
      have s03 : Same H0 (upd H2 R (.lst (ps.map V.ref ++ [.ref p]))) := fun c o z => by
        rw [upd_ne (ne_of_none z hR)]
        exact s2 _ _ (sH _ _ z)
      have wn0 : H0 w = none := by
        cases q : H0 w with
        | none => rfl
        | some o => have := sH _ _ q; rw [hw] at this; cases this
      have pl3 : (ps ++ [p]).length = i * 6 + 1 := by rw [List.length_append, pl]; rfl
      generalize upd H2 R (.lst (ps.map V.ref ++ [.ref p])) = H3 at r3 w3 s03 ⊢
      generalize ps ++ [p] = ps3 at r3 pl3
      -- first, bits
      obtain ⟨z0, z1, z2, hz⟩ := id w3
      refine ⟨_, rfl, w, z0, z1, z2, _, rfl, hz, (by decide), (by decide), fun d1 y0 y2 d10 d11 => ?_⟩
      have u4 : But w H3 (upd H3 w (.lst [.int y0, .int z1, .int y2])) := .upd
      have r4 := r3.but u4 w3 nwR
      have w4 : Well (upd H3 w (.lst [.int y0, .int z1, .int y2])) w := .upw
      have s04 := same_of_but wn0 s03 u4
      generalize upd H3 w (.lst [.int y0, .int z1, .int y2]) = H4 at r4 w4 s04 ⊢
      clear u4
      obtain ⟨z0, z1, z2, hz⟩ := id w4
      refine ⟨_, rfl, w, z0, z1, z2, _, rfl, hz, (by decide), (by decide), fun d2 y0 y2 d20 d21 => ?_⟩
      have u5 : But w H4 (upd H4 w (.lst [.int y0, .int z1, .int y2])) := .upd
      have r5 := r4.but u5 w4 nwR
      have s05 := same_of_but wn0 s04 u5
      generalize upd H4 w (.lst [.int y0, .int z1, .int y2]) = H5 at r5 s05 ⊢
      clear u5 r3 r4 w4 s04
      refine ⟨_, rfl, (by decide), (by decide), for_range (lo := 0) (n := 5) (fun j σ H => ∃ v6 v7, σ = [some (.ref a), some (.ref R), some (.int (0 + (i : Int))), some (.ref w), some (.int d1), some (.int d2), v6, v7, v8] ∧ ∃ ps, RowsIn R ps H ∧ ps.length = i * 6 + 1 + j ∧ Same H0 H) ⟨_, _, rfl, ps3, r5, pl3, s05⟩ ?_ ?_⟩
      · rintro j σ H hj ⟨v6, v7, rfl, ps, rin, pl, sH⟩
        have hkn : ∃ kn : Nat, 1 + (0 + (j : Int)) % 4 = (kn : Int) ∧ 1 ≤ kn ∧ kn ≤ 4 := ⟨(1 + (0 + (j : Int)) % 4).toNat, by omega, by omega, by omega⟩
        obtain ⟨kn, ekn, k1, k4⟩ := hkn
        have hvn : ∃ vn : Nat, (d2 + 333 * (0 + (j : Int))) % 1000 + 1 = (vn : Int) ∧ 1 ≤ vn ∧ vn ≤ 1000 := ⟨((d2 + 333 * (0 + (j : Int))) % 1000 + 1).toNat, by omega, by omega, by omega⟩
        obtain ⟨vn, evn, v1, vm⟩ := hvn
        have hxn : ∃ xn : Nat, (d1 + 7 * (0 + (j : Int))) % 20 + 1 = (xn : Int) ∧ 1 ≤ xn ∧ xn ≤ 20 := ⟨((d1 + 7 * (0 + (j : Int))) % 20 + 1).toNat, by omega, by omega, by omega⟩
        obtain ⟨xn, exn, x1, xm⟩ := hxn
        refine ⟨_, rfl, _, rfl, _, _, rfl, rfl, .inl ⟨by decide, by decide⟩, _, _, rfl, rfl, _, _, rfl, rfl, (by show (0 : Int) < 1000; decide), _, _, rfl, rfl, (by show 1 ≤ sizeLine; decide), fun p1 hp1 => ?_⟩
        dsimp only at hp1 ⊢
        rw [evn]
        have sA := Same.upd (o := .tup [V.int (vn : Int)]) hp1
        have eA := new_at' (o := .tup [V.int (vn : Int)]) hp1
        generalize upd H p1 (.tup [V.int (vn : Int)]) = HA at sA eA ⊢
        refine ⟨_, rfl, _, _, rfl, rfl, (by show (0 : Int) < 4; decide), _, _, rfl, rfl, ?_⟩
        dsimp only
        rw [ekn]
        refine ⟨p1, (kn : Int), [V.int (vn : Int)], rfl, rfl, eA, (by simp), (by omega), (by omega), (by simp), fun pf HB sB hpf => ?_⟩
        rw [show ((kn : Int)).toNat = kn by omega, rep_nat] at hpf
        have sAB := sA.trans sB
        have rB := rin.same sAB
        refine ⟨_, rfl, .inl ⟨rfl, _, SqL.of rB.at_⟩, _, rfl, _, rfl, _, _, rfl, rfl, .inl ⟨by decide, by decide⟩, _, _, rfl, rfl, _, _, rfl, rfl, (by show (0 : Int) < 20; decide), _, _, rfl, rfl, (by show 1 ≤ sizeLine; decide), fun q1 hq1 => ?_⟩
        dsimp only
        rw [exn]
        have sC := Same.upd (o := .tup [V.int (xn : Int)]) hq1
        have eC := new_at' (o := .tup [V.int (xn : Int)]) hq1
        generalize upd HB q1 (.tup [V.int (xn : Int)]) = HC at sC eC ⊢
        refine ⟨_, rfl, (by show 1 ≤ sizeLine; decide), fun q2 hq2 => ?_⟩
        have sD := Same.upd (o := .tup [V.ref pf]) hq2
        have eD := new_at' (o := .tup [V.ref pf]) hq2
        generalize upd HC q2 (.tup [V.ref pf]) = HD at sD eD ⊢
        refine ⟨(by show 2 ≤ sizeLine; decide), fun q3 hq3 => ?_⟩
        have sE := Same.upd (o := .tup [V.ref q1, V.ref q2]) hq3
        have eE := new_at' (o := .tup [V.ref q1, V.ref q2]) hq3
        generalize upd HD q3 (.tup [V.ref q1, V.ref q2]) = HE at sE eE ⊢
        have rE := rB.same ((sC.trans sD).trans sE)
        have row : TalkRow HE q3 (natI [xn]) (natR [List.replicate kn vn]) := ⟨q1, q2, [pf], eE, sE _ _ (sD _ _ eC), sE _ _ eD, .cons (sE _ _ (sD _ _ (sC _ _ hpf))) .nil⟩
        have ok : TxOk kn [xn] [List.replicate kn vn] := ⟨rfl, Nat.le_refl _, (by show 1 ≤ 12; decide), k1, k4, fun n hn => by rw [List.mem_singleton.mp hn]; exact ⟨x1, xm⟩, fun row hrow => by
          rw [List.mem_singleton.mp hrow]
          exact ⟨List.length_replicate, fun c hc => by rw [List.eq_of_mem_replicate hc]; exact ⟨v1, vm⟩⟩⟩
        refine ⟨R, _, _, rfl, rfl, rE.at_, (by rw [List.length_map]; exact small1000 (by omega)), ?_⟩
        refine ⟨_, _, rfl, ps ++ [q3], rE.push row ok, by rw [List.length_append, pl]; rfl, fun c o z => ?_⟩
        rw [upd_ne (ne_of_none z hR)]
        exact sE _ _ (sD _ _ (sC _ _ (sAB _ _ (sH _ _ z))))
      · rintro σ H ⟨v6, v7, rfl, ps, rin, pl, sH⟩
        exact ⟨_, _, _, _, _, _, _, rfl, ps, rin, by omega, sH⟩
    · rintro σ H ⟨v2, v3, v4, v5, v6, v7, v8, rfl, ps, rin, pl, sH⟩
      refine ⟨_, rfl, _, rfl, R, _, rfl, SqL.of rin.at_, fun q hq => ?_⟩
      have sA := Same.upd (o := .lst (ps.map V.ref).reverse) hq
      have eA := new_at' (o := .lst (ps.map V.ref).reverse) hq
      generalize upd H q (.lst (ps.map V.ref).reverse) = HA at sA eA ⊢
      refine ⟨R, q, _, _, rfl, rfl, sA _ _ rin.at_, eA, (by rw [List.length_reverse, List.length_map, ez]; omega), fun W hW => ?_⟩
      have sB := Same.upd (o := .lst (ps.map V.ref ++ (ps.map V.ref).reverse)) hW
      have eB := new_at' (o := .lst (ps.map V.ref ++ (ps.map V.ref).reverse)) hW
      generalize upd HA W (.lst (ps.map V.ref ++ (ps.map V.ref).reverse)) = HB at sB eB ⊢
      have rB := rin.same (sA.trans sB)
      refine ⟨W, rfl, ⟨_, SqL.of eB⟩, fun D hD => ?_⟩
      refine lc_list (K := K) (a := W) (xs := ps.map V.ref ++ (ps.map V.ref).reverse) (fun m H => H D = some (.lst []) ∧ Same HB H) ⟨upd_same, Same.upd hD⟩ (fun m H _ ⟨_, sl⟩ => SqL.of (sl _ _ eB)) ?_ ?_
      · rintro m y H hy ⟨eD, sl⟩
        have hmem : y ∈ ps.map V.ref := by
          rcases List.mem_append.mp (List.mem_of_getElem? hy) with h | h
          · exact h
          · exact List.mem_reverse.mp h
        obtain ⟨p, hp, rfl⟩ := List.mem_map.mp hmem
        obtain ⟨r, ns, bss, row, ok⟩ := rB.ok p hp
        refine ⟨rfl, ?_⟩
        exact ⟨_, rfl, p, r, ns, bss, rfl, row.same sl, ok, fun H' s' => ⟨true, rfl, iteF ⟨s' _ _ eD, sl.trans s'⟩⟩⟩
      · rintro H ⟨eD, sl⟩
        refine ⟨Nat.zero_le _, fun E1 hE1 => ?_⟩
        have smE : Sml 1 41 (.list []) := Sml.lst (xs := []) (m := 0) (n := 40) (k := 1) (fun z hz => absurd hz List.not_mem_nil) (Nat.zero_le _)
        refine ⟨.list [], .list [], .lst (SqL.of (Same.upd hE1 _ _ eD)) .nil, .lst (SqL.of (new_at' (o := .lst []) hE1)) .nil, smE.shaped (by decide), smE.shaped (by decide), ?_⟩
        rw [smE.refl]
        exact k _
end
end Rp

namespace Rp
open PySem PySem.Spec PyProof.Rows L2
theorem all_mk {w : World} {K : PySem.W.Frag} {h : Heap} {mg : Str → Option Value} {fa : Addr} (X : K.In h) (G : h.Ns mainGlobals mg) (hfa : mg "law" = some (.ref fa))
    {C fI fL fE fM fH fJ fS fR_ fA fB_ fW fT fK_ fX_ fQ fLaw : Addr} {odI anI odL anL odE anE odM anM odH anH odJ anJ odS anS odR_ anR_ odA anA odB_ anB_ odW anW odT anT odK_ anK_ odX_ anX_ odQ anQ odLaw anLaw : Option Addr} {slI slL slE slM slH slJ slS slR_ slA slB_ slW slT slK_ slX_ slQ slLaw : Array (Option Value)} {ocI kVI dcI pmI cdI ctI ocL kVL dcL pmL cdL ctL ocE kVE dcE pmE cdE ctE ocM kVM dcM pmM cdM ctM ocH kVH dcH pmH cdH ctH ocJ kVJ dcJ pmJ cdJ ctJ ocS kVS dcS pmS cdS ctS ocR_ kVR_ dcR_ pmR_ cdR_ ctR_ ocA kVA dcA pmA cdA ctA ocB_ kVB_ dcB_ pmB_ cdB_ ctB_ ocW kVW dcW pmW cdW ctW ocT kVT dcT pmT cdT ctT ocK_ kVK_ dcK_ pmK_ cdK_ ctK_ ocX_ kVX_ dcX_ pmX_ cdX_ ctX_ ocQ kVQ dcQ pmQ cdQ ctQ ocLaw kVLaw dcLaw pmLaw cdLaw ctLaw : Value}
    {t1 t2 t3 t4 : Tok}
    (aC : PySem.W.nsIn K mainGlobals "Talk" = some (some (.ref C)))
    (cMOST_RATES : PySem.W.nsIn K mainGlobals "MOST_RATES" = some (some (.int 4 t1)))
    (cMOST_BEATS : PySem.W.nsIn K mainGlobals "MOST_BEATS" = some (some (.int 20 t2)))
    (cMOST_BITS : PySem.W.nsIn K mainGlobals "MOST_BITS" = some (some (.int 1000 t3)))
    (cMOST_STRETCHES : PySem.W.nsIn K mainGlobals "MOST_STRETCHES" = some (some (.int 12 t4)))
    (qI : PySem.W.findIn K (.ref C) "__init__" = some (some (.ref fI)))
    (iI : PySem.W.isFn K (.ref fI) = true)
    (lI : K.lookup fI = some ⟨ocI, odI, .func (PySem.W.fnOf "__init__" "Talk.__init__" (defArgs sInit) (defBody sInit) (defScope sInit) .none kVI dcI pmI anI cdI ctI), slI⟩)
    (cI : PySem.W.codeIn K cdI "Talk.__init__" = true)
    (kI : PySem.W.keepIn K (.ref fI) = true)
    (qL : PySem.W.findIn K (.ref C) "__len__" = some (some (.ref fL)))
    (iL : PySem.W.isFn K (.ref fL) = true)
    (lL : K.lookup fL = some ⟨ocL, odL, .func (PySem.W.fnOf "__len__" "Talk.__len__" (defArgs sLen) (defBody sLen) (defScope sLen) .none kVL dcL pmL anL cdL ctL), slL⟩)
    (cL : PySem.W.codeIn K cdL "Talk.__len__" = true)
    (kL : PySem.W.keepIn K (.ref fL) = true)
    (qE : PySem.W.findIn K (.ref C) "__eq__" = some (some (.ref fE)))
    (iE : PySem.W.isFn K (.ref fE) = true)
    (lE : K.lookup fE = some ⟨ocE, odE, .func (PySem.W.fnOf "__eq__" "Talk.__eq__" (defArgs sEq) (defBody sEq) (defScope sEq) .none kVE dcE pmE anE cdE ctE), slE⟩)
    (cE : PySem.W.codeIn K cdE "Talk.__eq__" = true)
    (kE : PySem.W.keepIn K (.ref fE) = true)
    (qM : PySem.W.findIn K (.ref C) "many_rates" = some (some (.ref fM)))
    (iM : PySem.W.isFn K (.ref fM) = true)
    (lM : K.lookup fM = some ⟨ocM, odM, .func (PySem.W.fnOf "many_rates" "Talk.many_rates" (defArgs sMany) (defBody sMany) (defScope sMany) .none kVM dcM pmM anM cdM ctM), slM⟩)
    (cM : PySem.W.codeIn K cdM "Talk.many_rates" = true)
    (kM : PySem.W.keepIn K (.ref fM) = true)
    (gH : PySem.W.nsIn K mainGlobals "written_number" = some (some (.ref fH)))
    (lH : K.lookup fH = some ⟨ocH, odH, .func (PySem.W.fnOf "written_number" "written_number" (defArgs sWW) (defBody sWW) (defScope sWW) .none kVH dcH pmH anH cdH ctH), slH⟩)
    (cH : PySem.W.codeIn K cdH "written_number" = true)
    (kH : PySem.W.keepIn K (.ref fH) = true)
    (gJ : PySem.W.nsIn K mainGlobals "is_written" = some (some (.ref fJ)))
    (lJ : K.lookup fJ = some ⟨ocJ, odJ, .func (PySem.W.fnOf "is_written" "is_written" (defArgs sIW) (defBody sIW) (defScope sIW) .none kVJ dcJ pmJ anJ cdJ ctJ), slJ⟩)
    (cJ : PySem.W.codeIn K cdJ "is_written" = true)
    (kJ : PySem.W.keepIn K (.ref fJ) = true)
    (gS : PySem.W.nsIn K mainGlobals "show_talk" = some (some (.ref fS)))
    (lS : K.lookup fS = some ⟨ocS, odS, .func (PySem.W.fnOf "show_talk" "show_talk" (defArgs sShow) (defBody sShow) (defScope sShow) .none kVS dcS pmS anS cdS ctS), slS⟩)
    (cS : PySem.W.codeIn K cdS "show_talk" = true)
    (kS : PySem.W.keepIn K (.ref fS) = true)
    (gR_ : PySem.W.nsIn K mainGlobals "read_talk" = some (some (.ref fR_)))
    (lR_ : K.lookup fR_ = some ⟨ocR_, odR_, .func (PySem.W.fnOf "read_talk" "read_talk" (defArgs sRead) (defBody sRead) (defScope sRead) .none kVR_ dcR_ pmR_ anR_ cdR_ ctR_), slR_⟩)
    (cR_ : PySem.W.codeIn K cdR_ "read_talk" = true)
    (kR_ : PySem.W.keepIn K (.ref fR_) = true)
    (gA : PySem.W.nsIn K mainGlobals "_read_rates" = some (some (.ref fA)))
    (lA : K.lookup fA = some ⟨ocA, odA, .func (PySem.W.fnOf "_read_rates" "_read_rates" (defArgs sRR) (defBody sRR) (defScope sRR) .none kVA dcA pmA anA cdA ctA), slA⟩)
    (cA : PySem.W.codeIn K cdA "_read_rates" = true)
    (kA : PySem.W.keepIn K (.ref fA) = true)
    (gB_ : PySem.W.nsIn K mainGlobals "_read_stretch" = some (some (.ref fB_)))
    (lB_ : K.lookup fB_ = some ⟨ocB_, odB_, .func (PySem.W.fnOf "_read_stretch" "_read_stretch" (defArgs sRS) (defBody sRS) (defScope sRS) .none kVB_ dcB_ pmB_ anB_ cdB_ ctB_), slB_⟩)
    (cB_ : PySem.W.codeIn K cdB_ "_read_stretch" = true)
    (kB_ : PySem.W.keepIn K (.ref fB_) = true)
    (gW : PySem.W.nsIn K mainGlobals "_law_well" = some (some (.ref fW)))
    (lW : K.lookup fW = some ⟨ocW, odW, .func (PySem.W.fnOf "_law_well" "_law_well" (defArgs sWell) (defBody sWell) (defScope sWell) .none kVW dcW pmW anW cdW ctW), slW⟩)
    (cW : PySem.W.codeIn K cdW "_law_well" = true)
    (kW : PySem.W.keepIn K (.ref fW) = true)
    (gT : PySem.W.nsIn K mainGlobals "_law_take" = some (some (.ref fT)))
    (lT : K.lookup fT = some ⟨ocT, odT, .func (PySem.W.fnOf "_law_take" "_law_take" (defArgs sTake) (defBody sTake) (defScope sTake) .none kVT dcT pmT anT cdT ctT), slT⟩)
    (cT : PySem.W.codeIn K cdT "_law_take" = true)
    (kT : PySem.W.keepIn K (.ref fT) = true)
    (gK_ : PySem.W.nsIn K mainGlobals "_law_talk" = some (some (.ref fK_)))
    (lK_ : K.lookup fK_ = some ⟨ocK_, odK_, .func (PySem.W.fnOf "_law_talk" "_law_talk" (defArgs sTalk) (defBody sTalk) (defScope sTalk) .none kVK_ dcK_ pmK_ anK_ cdK_ ctK_), slK_⟩)
    (cK_ : PySem.W.codeIn K cdK_ "_law_talk" = true)
    (kK_ : PySem.W.keepIn K (.ref fK_) = true)
    (gX_ : PySem.W.nsIn K mainGlobals "_law_text" = some (some (.ref fX_)))
    (lX_ : K.lookup fX_ = some ⟨ocX_, odX_, .func (PySem.W.fnOf "_law_text" "_law_text" (defArgs sText) (defBody sText) (defScope sText) .none kVX_ dcX_ pmX_ anX_ cdX_ ctX_), slX_⟩)
    (cX_ : PySem.W.codeIn K cdX_ "_law_text" = true)
    (kX_ : PySem.W.keepIn K (.ref fX_) = true)
    (gQ : PySem.W.nsIn K mainGlobals "_law_right" = some (some (.ref fQ)))
    (lQ : K.lookup fQ = some ⟨ocQ, odQ, .func (PySem.W.fnOf "_law_right" "_law_right" (defArgs sRight) (defBody sRight) (defScope sRight) .none kVQ dcQ pmQ anQ cdQ ctQ), slQ⟩)
    (cQ : PySem.W.codeIn K cdQ "_law_right" = true)
    (kQ : PySem.W.keepIn K (.ref fQ) = true)
    (gLaw : PySem.W.nsIn K mainGlobals "law" = some (some (.ref fLaw)))
    (lLaw : K.lookup fLaw = some ⟨ocLaw, odLaw, .func (PySem.W.fnOf "law" "law" (defArgs sLaw) (defBody sLaw) (defScope sLaw) .none kVLaw dcLaw pmLaw anLaw cdLaw ctLaw), slLaw⟩)
    (cLaw : PySem.W.codeIn K cdLaw "law" = true)
    (kLaw : PySem.W.keepIn K (.ref fLaw) = true)
    (pg : PySem.W.plainGet K C Str.empty = true)
    (hd : PySem.W.hasDictIn K C = true)
    (po : PySem.W.plainOver K C = true)
    (mk : PySem.W.makesIn K C = true)
    (kc : PySem.W.keepIn K (.ref C) = true)
    (sa : PySem.W.findIn K (.ref C) "__setattr__" = some (some (.builtin "object.__setattr__")))
    (n1 : PySem.W.findIn K (.ref C) "lengths" = some none)
    (n2 : PySem.W.findIn K (.ref C) "sizes" = some none)
    (ca : PySem.W.findIn K (.ref C) "__class__" = some (some (.builtin "object.__class__")))
    (cn : PySem.W.specialIn K (.builtin "object.__class__") "__get__" = some (some (.builtin "getset_descriptor.__get__")))
    (ct : PySem.W.takesIn K (.builtin "object.__class__") = some true)
    (cm : PySem.W.mroIn K C (.type "object") = some true)
    (zint : PySem.W.nsIn K mainGlobals "int" = some none)
    (zlen : PySem.W.nsIn K mainGlobals "len" = some none)
    (zrange : PySem.W.nsIn K mainGlobals "range" = some none)
    (ztuple : PySem.W.nsIn K mainGlobals "tuple" = some none)
    (zisinstance : PySem.W.nsIn K mainGlobals "isinstance" = some none)
    (zrepr : PySem.W.nsIn K mainGlobals "repr" = some none)
    (zmin : PySem.W.nsIn K mainGlobals "min" = some none)
    (zmax : PySem.W.nsIn K mainGlobals "max" = some none)
    (zstr : PySem.W.nsIn K mainGlobals "str" = some none)
    (zsum : PySem.W.nsIn K mainGlobals "sum" = some none)
    (zzip : PySem.W.nsIn K mainGlobals "zip" = some none)
    (zenumerate : PySem.W.nsIn K mainGlobals "enumerate" = some none)
    (zall : PySem.W.nsIn K mainGlobals "all" = some none)
    : ∃ fd : FuncData, (∀ (s : Shared) (u : Value), BindsTo s fd ⟨[u], []⟩ [("_law_script", u)]) ∧ ∀ base : Heap, K.In base → base.Ns mainGlobals mg → FnG PySem.Challenge.pw_rateplan_k04_talks_written_and_read w K mg base CX0 6 fa fd ["_law_script"] (spLaw K) := by
  have e := hfa.symm.trans (PySem.W.mg_of X G gLaw)
  cases e
  have mMOST_RATES := PySem.W.mg_of X G cMOST_RATES
  have mMOST_BEATS := PySem.W.mg_of X G cMOST_BEATS
  have mMOST_BITS := PySem.W.mg_of X G cMOST_BITS
  have mMOST_STRETCHES := PySem.W.mg_of X G cMOST_STRETCHES
  have FI := fun_mk (st := sInit) lI cI kI
  have bI := FI.binds (ps := ["self", "lengths", "sizes"]) fun _ _ _ _ _ _ us hl => match us, hl with | [_, _, _], _ => rfl
  have FL := fun_mk (st := sLen) lL cL kL
  have bL := FL.binds (ps := ["self"]) fun _ _ _ _ _ _ us hl => match us, hl with | [_], _ => rfl
  have FE := fun_mk (st := sEq) lE cE kE
  have bE := FE.binds (ps := ["self", "other"]) fun _ _ _ _ _ _ us hl => match us, hl with | [_, _], _ => rfl
  have FM := fun_mk (st := sMany) lM cM kM
  have bM := FM.binds (ps := ["self"]) fun _ _ _ _ _ _ us hl => match us, hl with | [_], _ => rfl
  have FH := fun_mk (st := sWW) lH cH kH
  have bH := FH.binds (ps := ["word", "most"]) fun _ _ _ _ _ _ us hl => match us, hl with | [_, _], _ => rfl
  have mH := PySem.W.mg_of X G gH
  have FJ := fun_mk (st := sIW) lJ cJ kJ
  have bJ := FJ.binds (ps := ["word"]) fun _ _ _ _ _ _ us hl => match us, hl with | [_], _ => rfl
  have mJ := PySem.W.mg_of X G gJ
  have FS := fun_mk (st := sShow) lS cS kS
  have bS := FS.binds (ps := ["talk"]) fun _ _ _ _ _ _ us hl => match us, hl with | [_], _ => rfl
  have mS := PySem.W.mg_of X G gS
  have FR_ := fun_mk (st := sRead) lR_ cR_ kR_
  have bR_ := FR_.binds (ps := ["text"]) fun _ _ _ _ _ _ us hl => match us, hl with | [_], _ => rfl
  have mR_ := PySem.W.mg_of X G gR_
  have FA := fun_mk (st := sRR) lA cA kA
  have bA := FA.binds (ps := ["line"]) fun _ _ _ _ _ _ us hl => match us, hl with | [_], _ => rfl
  have mA := PySem.W.mg_of X G gA
  have FB_ := fun_mk (st := sRS) lB_ cB_ kB_
  have bB_ := FB_.binds (ps := ["line", "rates"]) fun _ _ _ _ _ _ us hl => match us, hl with | [_, _], _ => rfl
  have mB_ := PySem.W.mg_of X G gB_
  have FW := fun_mk (st := sWell) lW cW kW
  have bW := FW.binds (ps := ["_law_script", "_law_k"]) fun _ _ _ _ _ _ us hl => match us, hl with | [_, _], _ => rfl
  have mW := PySem.W.mg_of X G gW
  have FT := fun_mk (st := sTake) lT cT kT
  have bT := FT.binds (ps := ["_law_well_here", "_law_top"]) fun _ _ _ _ _ _ us hl => match us, hl with | [_, _], _ => rfl
  have mT := PySem.W.mg_of X G gT
  have FK_ := fun_mk (st := sTalk) lK_ cK_ kK_
  have bK_ := FK_.binds (ps := ["_law_well_here"]) fun _ _ _ _ _ _ us hl => match us, hl with | [_], _ => rfl
  have mK_ := PySem.W.mg_of X G gK_
  have FX_ := fun_mk (st := sText) lX_ cX_ kX_
  have bX_ := FX_.binds (ps := ["_law_row"]) fun _ _ _ _ _ _ us hl => match us, hl with | [_], _ => rfl
  have mX_ := PySem.W.mg_of X G gX_
  have FQ := fun_mk (st := sRight) lQ cQ kQ
  have bQ := FQ.binds (ps := ["_law_row"]) fun _ _ _ _ _ _ us hl => match us, hl with | [_], _ => rfl
  have mQ := PySem.W.mg_of X G gQ
  have FLaw := fun_mk (st := sLaw) lLaw cLaw kLaw
  have bLaw := FLaw.binds (ps := ["_law_script"]) fun _ _ _ _ _ _ us hl => match us, hl with | [_], _ => rfl
  have mLaw := PySem.W.mg_of X G gLaw
  have nint := PySem.W.mg_none_of X G zint
  have nlen := PySem.W.mg_none_of X G zlen
  have nrange := PySem.W.mg_none_of X G zrange
  have ntuple := PySem.W.mg_none_of X G ztuple
  have nisinstance := PySem.W.mg_none_of X G zisinstance
  have nrepr := PySem.W.mg_none_of X G zrepr
  have nmin := PySem.W.mg_none_of X G zmin
  have nmax := PySem.W.mg_none_of X G zmax
  have nstr := PySem.W.mg_none_of X G zstr
  have nsum := PySem.W.mg_none_of X G zsum
  have nzip := PySem.W.mg_none_of X G zzip
  have nenumerate := PySem.W.mg_none_of X G zenumerate
  have nall := PySem.W.mg_none_of X G zall
  have mC := PySem.W.mg_of X G aC
  have B : Bi mg := ⟨nint, nlen, nrange, ntuple⟩
  have T : TkE K C fI fL fE fM := { cl := ⟨pg, hd, po, sa⟩, make := ⟨mk, qI, iI, kc⟩, nl := n1, ns := n2, ca := ca, cn := cn, ct := ct, cm := cm, ln := qL, lnf := iL, eq := qE, eqf := iE, mM := ⟨qM, iM, kM⟩ }
  exact ⟨PySem.W.fnOf "law" "law" (defArgs sLaw) (defBody sLaw) (defScope sLaw) .none kVLaw dcLaw pmLaw anLaw cdLaw ctLaw, fun s v => .of_eq rfl, fun base _ _ => ok_law FLaw B nmin nmax FW mW bW FT mT bT FK_ mK_ bK_ FQ (ok_right FQ B T mC nstr nisinstance nrepr nsum FI bI FE bE FL bL FX_ mX_ bX_ FS (ok_show FS B T.toTkB T.mM nstr nzip FM bM) mS bS FR_ (ok_read FR_ B T.toTkB mC nstr nenumerate nisinstance FI bI FH mH bH FJ mJ bJ nall mMOST_RATES mMOST_BEATS mMOST_BITS mMOST_STRETCHES FA mA bA FB_ mB_ bB_) mR_ bR_) mQ bQ⟩
end Rp
open PySem PySem.W PyProof.Rows
set_option maxRecDepth 100000 in
set_option maxHeartbeats 0 in
theorem PySem.Challenge.cw_rateplan_k04_talks_written_and_read_holds : PySem.Challenge.rw_rateplan_k04_talks_written_and_read.Holds := by
  w_on; o_law; k_head; (case hw => w_witness2)
  k_fill
  refine Rp.walkG (l := PySem.Challenge.rw_rateplan_k04_talks_written_and_read) (n := 63) (k := 6) (x := "_law_script") (CX := fun _ => L2.CX0) (sp := Rp.spLaw) rfl (by decide) rfl ⟨rfl, by decide, by decide⟩ (fun w h Y => PySem.W.kIn_of Y) ?F (fun K H a ns _ _ hS => ⟨a, ns, rfl, hS, fun _ => rfl⟩) (fun _ _ _ _ _ z => z)
  case F =>
    intro w mg fa h KX G hmg
    refine' Rp.all_mk KX G hmg ?aC ?cMOST_RATES ?cMOST_BEATS ?cMOST_BITS ?cMOST_STRETCHES ?qI ?iI ?lI ?cI ?kI ?qL ?iL ?lL ?cL ?kL ?qE ?iE ?lE ?cE ?kE ?qM ?iM ?lM ?cM ?kM ?gH ?lH ?cH ?kH ?gJ ?lJ ?cJ ?kJ ?gS ?lS ?cS ?kS ?gR_ ?lR_ ?cR_ ?kR_ ?gA ?lA ?cA ?kA ?gB_ ?lB_ ?cB_ ?kB_ ?gW ?lW ?cW ?kW ?gT ?lT ?cT ?kT ?gK_ ?lK_ ?cK_ ?kK_ ?gX_ ?lX_ ?cX_ ?kX_ ?gQ ?lQ ?cQ ?kQ ?gLaw ?lLaw ?cLaw ?kLaw ?pg ?hd ?po ?mk ?kc ?sa ?n1 ?n2 ?ca ?cn ?ct ?cm ?zint ?zlen ?zrange ?ztuple ?zisinstance ?zrepr ?zmin ?zmax ?zstr ?zsum ?zzip ?zenumerate ?zall
    (case aC => k_is)
    (case cMOST_RATES => k_is)
    (case cMOST_BEATS => k_is)
    (case cMOST_BITS => k_is)
    (case cMOST_STRETCHES => k_is)
    (case qI => k_is)
    (case iI => k_is)
    (case lI => k_is)
    (case cI => k_is)
    (case kI => k_is)
    (case qL => k_is)
    (case iL => k_is)
    (case lL => k_is)
    (case cL => k_is)
    (case kL => k_is)
    (case qE => k_is)
    (case iE => k_is)
    (case lE => k_is)
    (case cE => k_is)
    (case kE => k_is)
    (case qM => k_is)
    (case iM => k_is)
    (case lM => k_is)
    (case cM => k_is)
    (case kM => k_is)
    (case gH => k_is)
    (case lH => k_is)
    (case cH => k_is)
    (case kH => k_is)
    (case gJ => k_is)
    (case lJ => k_is)
    (case cJ => k_is)
    (case kJ => k_is)
    (case gS => k_is)
    (case lS => k_is)
    (case cS => k_is)
    (case kS => k_is)
    (case gR_ => k_is)
    (case lR_ => k_is)
    (case cR_ => k_is)
    (case kR_ => k_is)
    (case gA => k_is)
    (case lA => k_is)
    (case cA => k_is)
    (case kA => k_is)
    (case gB_ => k_is)
    (case lB_ => k_is)
    (case cB_ => k_is)
    (case kB_ => k_is)
    (case gW => k_is)
    (case lW => k_is)
    (case cW => k_is)
    (case kW => k_is)
    (case gT => k_is)
    (case lT => k_is)
    (case cT => k_is)
    (case kT => k_is)
    (case gK_ => k_is)
    (case lK_ => k_is)
    (case cK_ => k_is)
    (case kK_ => k_is)
    (case gX_ => k_is)
    (case lX_ => k_is)
    (case cX_ => k_is)
    (case kX_ => k_is)
    (case gQ => k_is)
    (case lQ => k_is)
    (case cQ => k_is)
    (case kQ => k_is)
    (case gLaw => k_is)
    (case lLaw => k_is)
    (case cLaw => k_is)
    (case kLaw => k_is)
    (case pg => k_is)
    (case hd => k_is)
    (case po => k_is)
    (case mk => k_is)
    (case kc => k_is)
    (case sa => k_is)
    (case n1 => k_is)
    (case n2 => k_is)
    (case ca => k_is)
    (case cn => k_is)
    (case ct => k_is)
    (case cm => k_is)
    (case zint => k_is)
    (case zlen => k_is)
    (case zrange => k_is)
    (case ztuple => k_is)
    (case zisinstance => k_is)
    (case zrepr => k_is)
    (case zmin => k_is)
    (case zmax => k_is)
    (case zstr => k_is)
    (case zsum => k_is)
    (case zzip => k_is)
    (case zenumerate => k_is)
    (case zall => k_is)

