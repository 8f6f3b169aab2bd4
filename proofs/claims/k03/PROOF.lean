import PyProof.Rows.All
import Wide.All
import OpenK.AllK
import Wide.FinOn
import HandS.ForMost
import HandS.ForExc
import PyProof.ListRange
import PyProof.RowDictHeap
import KE.KTupSum
import OpenK.KOps
import HandS.Dict
import KE.KExcInit
import HandS.ExcInit
import HandS.WordsExc
import HandS.TupAny
import HandS.IsInst
import HandS.OwnEq
import KE.KExcIs
import HandS.ExcIs
import HandS.ExcField
import HandS.FStr
import HandS.Conv
import HandS.Comp
import PySem.Challenge.RW_rateplan_k03_places_of_beats
set_option Elab.async false
set_option linter.all false
set_option maxRecDepth 100000
set_option maxHeartbeats 4000000
namespace Rp
open PySem PySem.Spec PyProof.Rows L2
abbrev topS (i : Nat) : Stmt := PySem.Challenge.pw_rateplan_k03_places_of_beats.main.body.getD i (.Pass ⟨0, 0, 0, 0⟩)
abbrev sTake : Stmt := topS 20
theorem scTake : FnScope ["_law_well_here", "_law_top", "_law_digit", "_law_number"] ["_law_well_here", "_law_top"] (defScope sTake) :=
  ⟨rfl, rfl, rfl, by decide +kernel, rfl, by decide +kernel, by decide +kernel⟩

/-- the well: three whole numbers in a list -/
def Well (H : Hp) (w : Addr) : Prop := ∃ c0 c1 c2 : Int, H w = some (.lst [.int c0, .int c1, .int c2])
/-- all but the object at w stands -/
def But (w : Addr) (H H' : Hp) : Prop := ∀ b o, b ≠ w → H b = some o → H' b = some o
theorem But.refl (w : Addr) (H : Hp) : But w H H := fun _ _ _ h => h
theorem But.trans {w : Addr} {H H1 H2 : Hp} (a : But w H H1) (b : But w H1 H2) : But w H H2 := fun c o n h => b c o n (a c o n h)
theorem But.upd {w : Addr} {H : Hp} {o : HO} : But w H (upd H w o) := fun b u n h => by rw [upd_ne n]; exact h

def spTake : Sp := fun vs H Q _ => ∃ (w : Addr) (c0 c1 c2 top : Int), vs = [.ref w, .int top] ∧ H w = some (.lst [.int c0, .int c1, .int c2]) ∧ 1 ≤ top ∧ top < 1000000 ∧
  ∀ d c0' c2' : Int, 0 ≤ d → d < top → Q (.int d) (upd H w (.lst [.int c0', .int c1, .int c2']))

section
variable {P : Program} {w : World} {K : PySem.W.Frag} {mg : Str → Option Value} {base : Heap}
theorem ok_take {f : Addr} {fd : FuncData} (F : Fun K "_law_take" "_law_take" sTake f fd) : FnOk P w K mg base CX0 1 f fd ["_law_well_here", "_law_top"] spTake := by
  refine F.ok scTake (fun vs H Q E h => ?_) (fun cdv A outer s H vs Q E hr h => ?_)
  · obtain ⟨_, _, _, _, _, rfl, _⟩ := h
    rfl
  · have nd := scTake.nd
    refine ⟨_, pss_cons (ps_if (pt_cmpR op_gt (pe_ix ix_list (pv 0) pe_int (fun _ _ => rfl)) pe_int (nomark _))
        (pss_cons (ps_set (i := 2) nd rfl (Or.inl rfl) (pe_op op_mod (pe_ix ix_list (pv 0) pe_int (fun _ _ => rfl)) (pv 1)))
          (pss_cons (ps_asg (pe_op op_fdiv (pe_ix ix_list (pv 0) pe_int (fun _ _ => rfl)) (pv 1)) (pg_sub (pv 0) pe_int set_list))
            (pss_one (ps_ret (pv 2))))) pss_nil)
      (pss_cons (ps_asg (pe_op op_add (pe_ix ix_list (pv 0) pe_int (fun _ _ => rfl)) pe_int) (pg_sub (pv 0) pe_int set_list))
      (pss_cons (ps_set (i := 3) nd rfl (Or.inl rfl) (pe_op op_mod (pe_op op_mul (pe_op op_add (pe_op op_add (pe_ix ix_list (pv 0) pe_int (fun _ _ => rfl)) (pe_op op_mul pe_int (pe_ix ix_list (pv 0) pe_int (fun _ _ => rfl)))) pe_int) pe_int) pe_int))
      (pss_cons (ps_set (i := 3) nd rfl (Or.inl rfl) (pe_op op_mod (pe_op op_add (pe_op op_mul (pv 3) (pv 3)) (pe_op op_mul pe_int (pe_ix ix_list (pv 0) pe_int (fun _ _ => rfl)))) pe_int))
      (pss_cons (ps_set (i := 3) nd rfl (Or.inl rfl) (pe_op op_add (pe_op op_mul (pe_op op_mod (pe_op op_mul (pv 3) (pe_op op_add (pv 3) pe_int)) pe_int) pe_int) (pv 3)))
      (pss_one (ps_ret (pe_op op_mod (pe_op op_fdiv (pe_op op_mod (pe_op op_mul (pv 3) pe_int) pe_int) pe_int) (pv 1)))))))), ?_⟩
    obtain ⟨a, c0, c1, c2, top, rfl, ha, h1, h2, k⟩ := h
    refine ⟨_, rfl, a, _, 0, _, rfl, rfl, SqL.of ha, rfl, _, _, rfl, rfl, _, rfl, ?_⟩
    refine ite2 (fun _ => ?_) (fun _ => ?_)
    · refine ⟨_, rfl, a, _, 0, _, rfl, rfl, SqL.of ha, rfl, _, rfl, _, _, rfl, rfl, by show (0 : Int) < top; omega, ?_⟩
      refine ⟨_, rfl, a, _, 0, _, rfl, rfl, SqL.of ha, rfl, _, rfl, _, _, rfl, rfl, ⟨by show (0 : Int) < top; omega, by show top < 1073741824; omega⟩, ?_⟩
      refine ⟨_, rfl, a, _, 0, 0, rfl, rfl, ha, rfl, ?_⟩
      refine ⟨_, rfl, ?_⟩
      exact k _ _ c2 (Int.emod_nonneg _ (by omega)) (Int.emod_lt_of_pos _ (by omega))
    · refine ⟨_, rfl, a, _, 2, _, rfl, rfl, SqL.of ha, rfl, _, _, rfl, rfl, ?_⟩
      refine ⟨_, rfl, a, _, 2, 2, rfl, rfl, ha, rfl, ?_⟩
      have hb : upd H a (.lst [.int c0, .int c1, .int (c2 + 1)]) a = some (.lst [.int c0, .int c1, .int (c2 + 1)]) := upd_same
      refine ⟨_, rfl, a, _, 1, _, rfl, rfl, SqL.of hb, rfl, ?_⟩
      refine ⟨_, rfl, a, _, 2, _, rfl, rfl, SqL.of hb, rfl, _, _, rfl, rfl, .inl ⟨by decide, by decide⟩, ?_⟩
      refine ⟨_, _, rfl, rfl, _, _, rfl, rfl, _, _, rfl, rfl, .inr ⟨by decide, by decide⟩, _, _, rfl, rfl, (by show (0 : Int) < 2147483647; decide), ?_⟩
      have n0 := Int.emod_nonneg ((c1 + 65537 * (c2 + 1) + 31) * 48271) (show (2147483647 : Int) ≠ 0 by decide)
      have n1 := Int.emod_lt_of_pos ((c1 + 65537 * (c2 + 1) + 31) * 48271) (show (0 : Int) < 2147483647 by decide)
      refine ⟨_, rfl, _, rfl, _, _, rfl, rfl, .inl ⟨Int.lt_of_lt_of_le (by decide) n0, Int.lt_trans n1 (by decide)⟩, _, rfl, a, _, 2, _, rfl, rfl, SqL.of hb, rfl, _, _, rfl, rfl, .inl ⟨by decide, by decide⟩, _, _, rfl, rfl, _, _, rfl, rfl, (by show (0 : Int) < 2147483587; decide), ?_⟩
      have m0 := fun z : Int => Int.emod_nonneg z (show (2147483587 : Int) ≠ 0 by decide)
      have m1 := fun z : Int => Int.emod_lt_of_pos z (show (0 : Int) < 2147483587 by decide)
      refine ⟨_, rfl, _, rfl, _, _, rfl, rfl, _, _, rfl, rfl, .inl ⟨Int.lt_of_lt_of_le (by decide) (m0 _), Int.lt_trans (m1 _) (by decide)⟩, _, _, rfl, rfl, (by show (0 : Int) < 2147483563; decide), _, _, rfl, rfl, .inr ⟨by decide, by decide⟩, _, rfl, _, _, rfl, rfl, ?_⟩
      refine ⟨_, rfl, _, _, rfl, rfl, .inr ⟨by decide, by decide⟩, _, _, rfl, rfl, (by show (0 : Int) < 2305843009213693951; decide), _, _, rfl, rfl, ⟨by decide, by decide⟩, _, rfl, _, _, rfl, rfl, (by show (0 : Int) < top; omega), ?_⟩
      exact k _ c0 (c2 + 1) (Int.emod_nonneg _ (by omega)) (Int.emod_lt_of_pos _ (by omega))
end
end Rp

namespace Rp
open PySem PySem.Spec PyProof.Rows L2
abbrev sWell : Stmt := topS 19
abbrev sTalk : Stmt := topS 21
theorem scWell : FnScope ["_law_script", "_law_k", "_law_cell"] ["_law_script", "_law_k"] (defScope sWell) :=
  ⟨rfl, rfl, rfl, by decide +kernel, rfl, by decide +kernel, by decide +kernel⟩
theorem scTalk : FnScope ["_law_well_here", "_law_great", "_law_way", "_law_many", "_law_rates", "_law_lengths", "_law_sizes", "_law_k", "_law_row", "_law_j"] ["_law_well_here"] (defScope sTalk) :=
  ⟨rfl, rfl, rfl, by decide +kernel, rfl, by decide +kernel, by decide +kernel⟩

def spWell (K : PySem.W.Frag) : Sp := fun vs H Q _ => ∃ (a : Addr) (ns : List Int) (k : Nat), vs = [.ref a, .int k] ∧ SqL K H a (ns.map V.int) ∧
  ∀ p (c0 c1 c2 : Int), H p = none → Q (.ref p) (upd H p (.lst [.int c0, .int c1, .int c2]))
/-- the built-in names are as they were -/
structure Bi (mg : Str → Option Value) : Prop where
  int : mg "int" = none
  len : mg "len" = none
  range : mg "range" = none
  tuple : mg "tuple" = none

theorem cut_mul {b : Bool} {c : Int} : CMul c (if b = true then 1 else 0) := by
  cases b
  · exact .inr ⟨by decide, by decide⟩
  · exact .inr ⟨by decide, by decide⟩
section
variable {P : Program} {w : World} {K : PySem.W.Frag} {mg : Str → Option Value} {base : Heap}
theorem ok_well {f : Addr} {fd : FuncData} (F : Fun K "_law_well" "_law_well" sWell f fd) (T : Bi mg) : FnOk P w K mg base CX0 1 f fd ["_law_script", "_law_k"] (spWell K) := by
  refine F.ok scWell (fun vs H Q E h => ?_) (fun cdv A outer s H vs Q E hr h => ?_)
  · obtain ⟨_, _, _, rfl, _⟩ := h
    rfl
  · have nd := scWell.nd
    refine ⟨_, pss_cons (ps_set (i := 2) nd rfl (Or.inl rfl) pe_int)
      (pss_cons (ps_if (pt_cmpR op_lt (pv 1) (pe_callB call_len_seq (by rfl) T.len PySem.boot_len (pa_cons (pv 0) pa_nil)) (nomark _))
        (pss_one (ps_set (i := 2) nd rfl (Or.inl rfl) (pe_ix ix_list (pv 0) (pv 1) (fun _ _ => rfl)))) pss_nil)
      (pss_one (ps_ret (pe_lst (pa_cons (pe_op op_mul (pv 2) (pe_callTy call_int1 (by rfl) T.int boot_int (pa_cons (pe_cmpR op_ge (pv 2) (pe_op op_pow pe_int pe_int) (nomark _)) pa_nil)))
        (pa_cons (pe_op op_add (pe_op op_mod (pv 2) pe_int) (pe_op op_mul pe_int (pv 1))) (pa_cons pe_int pa_nil))))))), ?_⟩
    obtain ⟨a, ns, k, rfl, ha, q⟩ := h
    have hk : decide ((k : Int) < ((ns.map V.int).length : Int)) = true → k < (ns.map V.int).length := fun c => by have := of_decide_eq_true c; omega
    refine ⟨_, rfl, _, rfl, a, _, rfl, .inl ha, _, _, rfl, rfl, _, rfl, ?_⟩
    refine ite2 (fun c => ⟨_, rfl, _, rfl, a, _, k, _, rfl, rfl, ha, atI_nat (List.getElem?_eq_getElem (hk c)), ?_⟩) (fun _ => ?_)
    · rw [List.getElem_map]
      refine ⟨_, rfl, _, rfl, _, _, rfl, rfl, ⟨by decide, by decide, by decide⟩, _, _, rfl, rfl, .inr ⟨_, rfl, _, _, rfl, rfl, cut_mul, _, rfl, _, _, rfl, rfl, (by show (0 : Int) < 2147483629; decide), _, rfl, _, _, rfl, rfl, .inl ⟨by decide, by decide⟩, _, _, rfl, rfl, by show 3 ≤ sizeLine; decide, fun p hp => ?_⟩⟩
      exact q p _ _ _ hp
    · refine ⟨_, rfl, _, rfl, _, _, rfl, rfl, ⟨by decide, by decide, by decide⟩, _, _, rfl, rfl, .inr ⟨_, rfl, _, _, rfl, rfl, cut_mul, _, rfl, _, _, rfl, rfl, (by show (0 : Int) < 2147483629; decide), _, rfl, _, _, rfl, rfl, .inl ⟨by decide, by decide⟩, _, _, rfl, rfl, by show 3 ≤ sizeLine; decide, fun p hp => ?_⟩⟩
      exact q p _ _ _ hp
end
end Rp

namespace Rp
open PySem PySem.Spec PyProof.Rows L2
theorem four_at (a b c d way : Int) (h0 : 0 ≤ way) (h4 : way < 4) : ∃ v, atI [V.int a, V.int b, V.int c, V.int d] way = some (.int v) ∧ (v = a ∨ v = b ∨ v = c ∨ v = d) := by
  have h : way = 0 ∨ way = 1 ∨ way = 2 ∨ way = 3 := by omega
  rcases h with rfl | rfl | rfl | rfl
  · exact ⟨a, rfl, .inl rfl⟩
  · exact ⟨b, rfl, .inr (.inl rfl)⟩
  · exact ⟨c, rfl, .inr (.inr (.inl rfl))⟩
  · exact ⟨d, rfl, .inr (.inr (.inr rfl))⟩
theorem two_at (a b i : Int) (h0 : 0 ≤ i) (h2 : i < 2) : ∃ v, atI [V.int a, V.int b] i = some (.int v) ∧ (v = a ∨ v = b) := by
  have h : i = 0 ∨ i = 1 := by omega
  rcases h with rfl | rfl
  · exact ⟨a, rfl, .inl rfl⟩
  · exact ⟨b, rfl, .inr rfl⟩
/-- tuples of numbers at the addresses qs -/
def RowsAt (H : Hp) (qs : List Addr) (bs : List (List Int)) : Prop := Paired (fun (q : Addr) (row : List Int) => H q = some (.tup (row.map V.int))) qs bs
theorem RowsAt.imp {H H' : Hp} (k : ∀ q xs, H q = some (.tup xs) → H' q = some (.tup xs)) : ∀ {qs : List Addr} {bs : List (List Int)}, RowsAt H qs bs → RowsAt H' qs bs
  | _, _, .nil => .nil
  | _, _, .cons h t => .cons (k _ _ h) (RowsAt.imp k t)
theorem RowsAt.snoc {H : Hp} {q : Addr} {row : List Int} (h : H q = some (.tup (row.map V.int))) : ∀ {qs : List Addr} {bs : List (List Int)}, RowsAt H qs bs → RowsAt H (qs ++ [q]) (bs ++ [row])
  | _, _, .nil => .cons h .nil
  | _, _, .cons a t => .cons a (RowsAt.snoc h t)
theorem RowsAt.length {H : Hp} {qs : List Addr} {bs : List (List Int)} (h : RowsAt H qs bs) : qs.length = bs.length := Paired.length h
def RowOk (r : Nat) (row : List Int) : Prop := row.length = r ∧ ∀ b ∈ row, 1 ≤ b ∧ b ≤ 1000
/-- a talk's numbers as they are drawn -/
structure Fine (ls : List Int) (bs : List (List Int)) : Prop where
  same : ls.length = bs.length
  pos : 1 ≤ ls.length
  most : ls.length ≤ 12
  ls : ∀ l ∈ ls, 1 ≤ l ∧ l ≤ 20
  bs : ∃ r, 1 ≤ r ∧ r ≤ 4 ∧ ∀ row ∈ bs, RowOk r row
/-- (lengths, sizes) at p -/
def TalkRow (H : Hp) (p : Addr) (ls : List Int) (bs : List (List Int)) : Prop := ∃ a b qs, H p = some (.tup [.ref a, .ref b]) ∧ H a = some (.tup (ls.map V.int)) ∧ H b = some (.tup (qs.map V.ref)) ∧ RowsAt H qs bs
theorem TalkRow.imp {H H' : Hp} (k : ∀ q xs, H q = some (.tup xs) → H' q = some (.tup xs)) {p : Addr} {ls : List Int} {bs : List (List Int)} (h : TalkRow H p ls bs) : TalkRow H' p ls bs :=
  let ⟨a, b, qs, h1, h2, h3, h4⟩ := h
  ⟨a, b, qs, k _ _ h1, k _ _ h2, k _ _ h3, h4.imp k⟩
theorem But.tup {w : Addr} {H H' : Hp} (b : But w H H') (hw : Well H w) (q : Addr) (xs : List V) (h : H q = some (.tup xs)) : H' q = some (.tup xs) := by
  obtain ⟨_, _, _, hw⟩ := hw
  exact b q _ (ne_of h hw (by intro z; cases z)) h
def spTalk : Sp := fun vs H Q _ => ∃ w, vs = [.ref w] ∧ Well H w ∧ ∀ H' p ls bs, But w H H' → Well H' w → TalkRow H' p ls bs → Fine ls bs → Q (.ref p) H'

structure OS (w L S : Addr) (H0 : Hp) (ls : List Int) (qs : List Addr) (bs : List (List Int)) (H : Hp) : Prop where
  but : But w H0 H
  nl : H0 L = none
  ns : H0 S = none
  wl : w ≠ L
  ws : w ≠ S
  lS : L ≠ S
  well : Well H w
  hL : H L = some (.lst (ls.map V.int))
  hS : H S = some (.lst (qs.map V.ref))
  rows : RowsAt H qs bs
section
variable {w L S R : Addr} {H0 H : Hp} {ls row : List Int} {qs : List Addr} {bs : List (List Int)} {p : Addr} {o : HO}
theorem OS.wellNe (x : OS w L S H0 ls qs bs H) (hp : H p = none) : w ≠ p := by
  obtain ⟨_, _, _, h⟩ := x.well
  exact ne_of_none h hp
theorem OS.new (x : OS w L S H0 ls qs bs H) (hp : H p = none) : OS w L S H0 ls qs bs (upd H p o) where
  but := fun b u n h => by
    have := x.but b u n h
    rw [upd_ne (ne_of_none this hp)]; exact this
  nl := x.nl
  ns := x.ns
  wl := x.wl
  ws := x.ws
  lS := x.lS
  well := by
    obtain ⟨a, b, c, h⟩ := x.well
    exact ⟨a, b, c, by rw [upd_ne (ne_of_none h hp)]; exact h⟩
  hL := by rw [upd_ne (ne_of_none x.hL hp)]; exact x.hL
  hS := by rw [upd_ne (ne_of_none x.hS hp)]; exact x.hS
  rows := x.rows.imp fun q xs h => by rw [upd_ne (ne_of_none h hp)]; exact h
theorem OS.upw (x : OS w L S H0 ls qs bs H) {c0 c1 c2 : Int} : OS w L S H0 ls qs bs (upd H w (.lst [.int c0, .int c1, .int c2])) where
  but := x.but.trans .upd
  nl := x.nl
  ns := x.ns
  wl := x.wl
  ws := x.ws
  lS := x.lS
  well := ⟨c0, c1, c2, upd_same⟩
  hL := by rw [upd_ne (Ne.symm x.wl)]; exact x.hL
  hS := by rw [upd_ne (Ne.symm x.ws)]; exact x.hS
  rows := by
    obtain ⟨_, _, _, hw⟩ := x.well
    exact x.rows.imp fun q xs h => by rw [upd_ne (ne_of h hw (by intro z; cases z))]; exact h
theorem OS.pushL (x : OS w L S H0 ls qs bs H) {v : Int} : OS w L S H0 (ls ++ [v]) qs bs (upd H L (.lst (ls.map V.int ++ [.int v]))) where
  but := fun b u n h => by
    rw [upd_ne (ne_of_none h x.nl)]; exact x.but b u n h
  nl := x.nl
  ns := x.ns
  wl := x.wl
  ws := x.ws
  lS := x.lS
  well := by
    obtain ⟨a, b, c, h⟩ := x.well
    exact ⟨a, b, c, by rw [upd_ne x.wl]; exact h⟩
  hL := by rw [upd_same, List.map_append]; rfl
  hS := by rw [upd_ne (Ne.symm x.lS)]; exact x.hS
  rows := x.rows.imp fun q xs h => by rw [upd_ne (ne_of h x.hL (by intro z; cases z))]; exact h
theorem OS.pushS (x : OS w L S H0 ls qs bs H) (hp : H p = some (.tup (row.map V.int))) : OS w L S H0 ls (qs ++ [p]) (bs ++ [row]) (upd H S (.lst (qs.map V.ref ++ [.ref p]))) where
  but := fun b u n h => by
    rw [upd_ne (ne_of_none h x.ns)]; exact x.but b u n h
  nl := x.nl
  ns := x.ns
  wl := x.wl
  ws := x.ws
  lS := x.lS
  well := by
    obtain ⟨a, b, c, h⟩ := x.well
    exact ⟨a, b, c, by rw [upd_ne x.ws]; exact h⟩
  hL := by rw [upd_ne x.lS]; exact x.hL
  hS := by rw [upd_same, List.map_append]; rfl
  rows := by
    have k : ∀ q xs, H q = some (.tup xs) → upd H S (.lst (qs.map V.ref ++ [.ref p])) q = some (.tup xs) := fun q xs h => by rw [upd_ne (ne_of h x.hS (by intro z; cases z))]; exact h
    exact (x.rows.imp k).snoc (k _ _ hp)
/-- .. and a row that grows at R -/
structure OR (w L S R : Addr) (H0 : Hp) (ls : List Int) (qs : List Addr) (bs : List (List Int)) (row : List Int) (H : Hp) : Prop where
  os : OS w L S H0 ls qs bs H
  nr : H0 R = none
  wr : w ≠ R
  lr : L ≠ R
  sr : S ≠ R
  hR : H R = some (.lst (row.map V.int))
theorem OR.new (x : OR w L S R H0 ls qs bs row H) (hp : H p = none) : OR w L S R H0 ls qs bs row (upd H p o) where
  os := x.os.new hp
  nr := x.nr
  wr := x.wr
  lr := x.lr
  sr := x.sr
  hR := by rw [upd_ne (ne_of_none x.hR hp)]; exact x.hR
theorem OR.upw (x : OR w L S R H0 ls qs bs row H) {c0 c1 c2 : Int} : OR w L S R H0 ls qs bs row (upd H w (.lst [.int c0, .int c1, .int c2])) where
  os := x.os.upw
  nr := x.nr
  wr := x.wr
  lr := x.lr
  sr := x.sr
  hR := by rw [upd_ne (Ne.symm x.wr)]; exact x.hR
theorem OR.push (x : OR w L S R H0 ls qs bs row H) {v : Int} : OR w L S R H0 ls qs bs (row ++ [v]) (upd H R (.lst (row.map V.int ++ [.int v]))) where
  os := {
    but := fun b u n h => by rw [upd_ne (ne_of_none h x.nr)]; exact x.os.but b u n h
    nl := x.os.nl
    ns := x.os.ns
    wl := x.os.wl
    ws := x.os.ws
    lS := x.os.lS
    well := by
      obtain ⟨a, b, c, h⟩ := x.os.well
      exact ⟨a, b, c, by rw [upd_ne x.wr]; exact h⟩
    hL := by rw [upd_ne x.lr]; exact x.os.hL
    hS := by rw [upd_ne x.sr]; exact x.os.hS
    rows := x.os.rows.imp fun q xs h => by rw [upd_ne (ne_of h x.hR (by intro z; cases z))]; exact h }
  nr := x.nr
  wr := x.wr
  lr := x.lr
  sr := x.sr
  hR := by rw [upd_same, List.map_append]; rfl
end
/-- a drawn number, and what the draw leaves -/
theorem take_by {w : Addr} {H : Hp} {top : Int} {Q : VK} {E : XK} (hw : Well H w) (h1 : 1 ≤ top) (h2 : top < 1000000) (k : ∀ d c0 c1 c2 : Int, 0 ≤ d → d < top → Q (.int d) (upd H w (.lst [.int c0, .int c1, .int c2]))) : spTake [.ref w, .int top] H Q E := by
  obtain ⟨c0, c1, c2, hw⟩ := hw
  exact ⟨w, c0, c1, c2, top, rfl, hw, h1, h2, fun d c0' c2' a b => k d c0' c1 c2' a b⟩
theorem Well.upw {w : Addr} {H : Hp} {c0 c1 c2 : Int} : Well (upd H w (.lst [.int c0, .int c1, .int c2])) w := ⟨c0, c1, c2, upd_same⟩
theorem Well.new {w p : Addr} {H : Hp} {o : HO} (h : Well H w) (hp : H p = none) : Well (upd H p o) w := by
  obtain ⟨a, b, c, h⟩ := h
  exact ⟨a, b, c, by rw [upd_ne (ne_of_none h hp)]; exact h⟩
theorem But.new {w p : Addr} {H0 H : Hp} {o : HO} (h : But w H0 H) (hp : H p = none) : But w H0 (L2.upd H p o) := fun b u n q => by
  have := h b u n q
  rw [upd_ne (ne_of_none this hp)]; exact this
theorem But.free {w p : Addr} {H0 H : Hp} (h : But w H0 H) (hw : Well H w) (hp : H p = none) : H0 p = none := by
  cases q : H0 p with
  | none => rfl
  | some o =>
    obtain ⟨_, _, _, hw⟩ := hw
    have := h p o (Ne.symm (ne_of_none hw hp)) q
    rw [hp] at this; cases this
end Rp

namespace Rp
open PySem PySem.Spec PyProof.Rows L2
section
variable {P : Program} {w : World} {K : PySem.W.Frag} {mg : Str → Option Value} {base : Heap}
theorem ok_talk {f fT : Addr} {fd fdT : FuncData} (F : Fun K "_law_talk" "_law_talk" sTalk f fd) (T : Bi mg) (FT : Fun K "_law_take" "_law_take" sTake fT fdT) (mT : mg "_law_take" = some (.ref fT)) (bT : Binds K fdT ["_law_well_here", "_law_top"] []) :
    FnOk P w K mg base CX0 2 f fd ["_law_well_here"] spTalk := by
  have G : FnOk P w K mg base CX0 1 fT fdT ["_law_well_here", "_law_top"] spTake := ok_take FT
  refine F.ok scTalk (fun vs H Q E h => ?_) (fun cdv A outer s H0 vs Q E hr h => ?_)
  · obtain ⟨_, rfl, _⟩ := h
    rfl
  · have nd := scTalk.nd
    refine ⟨_, pss_cons (ps_set (i := 1) nd rfl (Or.inl rfl) (pe_callTy call_int1 (by rfl) T.int boot_int (pa_cons (pe_cmpR op_eq (pe_call G hr (by rfl) mT FT.kp bT .nil pass0 (pa_cons (pv 0) (pa_cons (pe_int) pa_nil))) (pe_int) (nomark _)) pa_nil)))
    (pss_cons (ps_set (i := 2) nd rfl (Or.inl rfl) (pe_call G hr (by rfl) mT FT.kp bT .nil pass0 (pa_cons (pv 0) (pa_cons (pe_int) pa_nil))))
    (pss_cons (ps_set (i := 3) nd rfl (Or.inl rfl) (pe_ix ix_list (pe_lst (pa_cons (pe_op op_add (pe_int) (pe_call G hr (by rfl) mT FT.kp bT .nil pass0 (pa_cons (pv 0) (pa_cons (pe_int) pa_nil)))) (pa_cons (pe_int) pa_nil))) (pv 1) (fun _ _ => rfl)))
    (pss_cons (ps_set (i := 4) nd rfl (Or.inl rfl) (pe_ix ix_list (pe_lst (pa_cons (pe_op op_add (pe_int) (pe_call G hr (by rfl) mT FT.kp bT .nil pass0 (pa_cons (pv 0) (pa_cons (pe_int) pa_nil)))) (pa_cons (pe_int) pa_nil))) (pv 1) (fun _ _ => rfl)))
    (pss_cons (ps_set (i := 5) nd rfl (Or.inl rfl) (pe_lst (pa_nil)))
    (pss_cons (ps_set (i := 6) nd rfl (Or.inl rfl) (pe_lst (pa_nil)))
    (pss_cons (ps_for PassesOwn.never rfl (pi_range1 (by rfl) T.range (pa_cons (pv 3) pa_nil)) (pg_name (i := 7) nd rfl (Or.inl rfl)) (pss_cons (ps_expr (pe_bm PySem.F.plainAttrs_list PySem.F.slot_list_append PySem.F.type_list_append mt_append (pv 5) (pa_cons (pe_ix ix_list (pe_lst (pa_cons (pe_op op_add (pe_int) (pe_call G hr (by rfl) mT FT.kp bT .nil pass0 (pa_cons (pv 0) (pa_cons (pe_int) pa_nil)))) (pa_cons (pe_op op_add (pe_int) (pe_call G hr (by rfl) mT FT.kp bT .nil pass0 (pa_cons (pv 0) (pa_cons (pe_int) pa_nil)))) (pa_cons (pe_op op_sub (pe_int) (pe_call G hr (by rfl) mT FT.kp bT .nil pass0 (pa_cons (pv 0) (pa_cons (pe_int) pa_nil)))) (pa_cons (pe_int) pa_nil))))) (pv 2) (fun _ _ => rfl)) pa_nil)))
      (pss_cons (ps_set (i := 8) nd rfl (Or.inl rfl) (pe_lst (pa_nil)))
      (pss_cons (ps_for PassesOwn.never rfl (pi_range1 (by rfl) T.range (pa_cons (pv 4) pa_nil)) (pg_name (i := 9) nd rfl (Or.inl rfl)) (pss_one (ps_expr (pe_bm PySem.F.plainAttrs_list PySem.F.slot_list_append PySem.F.type_list_append mt_append (pv 8) (pa_cons (pe_ix ix_list (pe_lst (pa_cons (pe_op op_add (pe_int) (pe_call G hr (by rfl) mT FT.kp bT .nil pass0 (pa_cons (pv 0) (pa_cons (pe_int) pa_nil)))) (pa_cons (pe_op op_add (pe_int) (pe_call G hr (by rfl) mT FT.kp bT .nil pass0 (pa_cons (pv 0) (pa_cons (pe_int) pa_nil)))) (pa_cons (pe_op op_sub (pe_int) (pe_call G hr (by rfl) mT FT.kp bT .nil pass0 (pa_cons (pv 0) (pa_cons (pe_int) pa_nil)))) (pa_cons (pe_op op_add (pe_op op_mul (pe_int) (pv 9)) (pe_int)) pa_nil))))) (pv 2) (fun _ _ => rfl)) pa_nil)))))
      (pss_one (ps_expr (pe_bm PySem.F.plainAttrs_list PySem.F.slot_list_append PySem.F.type_list_append mt_append (pv 6) (pa_cons (pe_callTy call_tuple_of (by rfl) T.tuple boot_tuple (pa_cons (pv 8) pa_nil)) pa_nil))))))))
    (pss_one (ps_ret (pe_tup (pa_cons (pe_callTy call_tuple_of (by rfl) T.tuple boot_tuple (pa_cons (pv 5) pa_nil)) (pa_cons (pe_callTy call_tuple_of (by rfl) T.tuple boot_tuple (pa_cons (pv 6) pa_nil)) pa_nil))))))))))), ?_⟩
    obtain ⟨w, rfl, ⟨hw0, x1, hw2, hw⟩, k⟩ := h
    -- great, way
    refine ⟨_, rfl, w, hw0, x1, hw2, _, rfl, hw, (by decide), (by decide), fun d0 x0 x2 _ _ => ⟨rfl, .inr ⟨_, rfl, ?_⟩⟩⟩
    obtain ⟨g, hg, g0, g2⟩ : ∃ g : Int, (if decide (V.int d0 = V.int 5) = true then (1 : Int) else 0) = g ∧ 0 ≤ g ∧ g < 2 := by
      split
      · exact ⟨1, rfl, by decide, by decide⟩
      · exact ⟨0, rfl, by decide, by decide⟩
    rw [hg]
    have b1 : But w H0 (upd H0 w (.lst [.int x0, .int x1, .int x2])) := .upd
    have w1 : Well (upd H0 w (.lst [.int x0, .int x1, .int x2])) w := .upw
    generalize upd H0 w (.lst [.int x0, .int x1, .int x2]) = H1 at b1 w1 ⊢
    obtain ⟨z0, y1, z2, hz⟩ := w1
    refine ⟨_, rfl, w, z0, y1, z2, _, rfl, hz, (by decide), (by decide), fun way y0 y2 way0 way4 => ?_⟩
    have b2 : But w H0 (upd H1 w (.lst [.int y0, .int y1, .int y2])) := b1.trans .upd
    have w2 : Well (upd H1 w (.lst [.int y0, .int y1, .int y2])) w := .upw
    generalize upd H1 w (.lst [.int y0, .int y1, .int y2]) = H2 at b2 w2 ⊢
    -- many
    obtain ⟨z0, y1, z2, hz⟩ := w2
    refine ⟨_, rfl, w, z0, y1, z2, _, rfl, hz, (by decide), (by decide), fun m0 y0 y2 m00 m05 => ⟨_, _, rfl, rfl, by show 2 ≤ sizeLine; decide, fun p hp => ?_⟩⟩
    have b3 := (b2.trans (.upd (w := w) (H := H2) (o := .lst [.int y0, .int y1, .int y2]))).new (o := .lst [.int (1 + m0), .int 12]) hp
    have w3 := (Well.upw (w := w) (H := H2) (c0 := y0) (c1 := y1) (c2 := y2)).new (o := .lst [.int (1 + m0), .int 12]) hp
    have hp3 : upd (upd H2 w (.lst [.int y0, .int y1, .int y2])) p (.lst [.int (1 + m0), .int 12]) p = some (.lst [.int (1 + m0), .int 12]) := upd_same
    obtain ⟨many, hm, hmv⟩ := two_at (1 + m0) 12 g g0 g2
    refine ⟨_, rfl, p, _, g, _, rfl, rfl, SqL.of hp3, hm, ?_⟩
    clear hp3 hp
    generalize upd (upd H2 w (.lst [.int y0, .int y1, .int y2])) p (.lst [.int (1 + m0), .int 12]) = H3 at b3 w3 ⊢
    -- rates
    obtain ⟨z0, y1, z2, hz⟩ := w3
    refine ⟨_, rfl, w, z0, y1, z2, _, rfl, hz, (by decide), (by decide), fun r0 y0 y2 r00 r04 => ⟨_, _, rfl, rfl, by show 2 ≤ sizeLine; decide, fun p hp => ?_⟩⟩
    have b4 := (b3.trans (.upd (w := w) (H := H3) (o := .lst [.int y0, .int y1, .int y2]))).new (o := .lst [.int (1 + r0), .int 4]) hp
    have w4 := (Well.upw (w := w) (H := H3) (c0 := y0) (c1 := y1) (c2 := y2)).new (o := .lst [.int (1 + r0), .int 4]) hp
    have hp4 : upd (upd H3 w (.lst [.int y0, .int y1, .int y2])) p (.lst [.int (1 + r0), .int 4]) p = some (.lst [.int (1 + r0), .int 4]) := upd_same
    obtain ⟨rates, hr', hrv⟩ := two_at (1 + r0) 4 g g0 g2
    refine ⟨_, rfl, p, _, g, _, rfl, rfl, SqL.of hp4, hr', ?_⟩
    clear hp4 hp
    generalize upd (upd H3 w (.lst [.int y0, .int y1, .int y2])) p (.lst [.int (1 + r0), .int 4]) = H4 at b4 w4 ⊢
    -- lengths, sizes
    refine ⟨Nat.zero_le _, fun L hL => ⟨Nat.zero_le _, fun S hS => ?_⟩⟩
    have hL' : upd H4 L (.lst []) L = some (.lst []) := upd_same
    have lS : L ≠ S := ne_of_none hL' hS
    have os0 : OS w L S H0 [] [] [] (upd (upd H4 L (.lst [])) S (.lst [])) := {
      but := (b4.new hL).new hS
      nl := b4.free w4 hL
      ns := (b4.new hL).free (w4.new hL) hS
      wl := by obtain ⟨_, _, _, h⟩ := w4; exact ne_of_none h hL
      ws := by obtain ⟨_, _, _, h⟩ := w4.new (o := .lst []) hL; exact ne_of_none h hS
      lS := lS
      well := (w4.new hL).new hS
      hL := by rw [upd_ne lS, upd_same]; rfl
      hS := upd_same
      rows := .nil }
    generalize upd (upd H4 L (.lst [])) S (.lst []) = H5 at os0 ⊢
    obtain ⟨m, rfl, hm1, hm2⟩ : ∃ m : Nat, many = (m : Int) ∧ 1 ≤ m ∧ m ≤ 12 := ⟨many.toNat, by omega, by omega, by omega⟩
    obtain ⟨r, rfl, hr1, hr2⟩ : ∃ r : Nat, rates = (r : Int) ∧ 1 ≤ r ∧ r ≤ 4 := ⟨rates.toNat, by omega, by omega, by omega⟩
    refine ⟨_, rfl, _, rfl, (by omega), (by omega), for_range (lo := 0) (n := m) (fun i σ H => ∃ v7 v8 v9, σ = [some (.ref w), some (.int g), some (.int way), some (.int m), some (.int r), some (.ref L), some (.ref S), v7, v8, v9] ∧
      ∃ ls qs bs, OS w L S H0 ls qs bs H ∧ ls.length = i ∧ bs.length = i ∧ (∀ l ∈ ls, 1 ≤ l ∧ l ≤ 20) ∧ ∀ row ∈ bs, RowOk r row) ⟨none, none, none, rfl, [], [], [], os0, rfl, rfl, (fun _ z => nomatch z), fun _ z => nomatch z⟩ ?_ ?_⟩
    · rintro i σ H hi ⟨v7, v8, v9, rfl, ls, qs, bs, os, e1, e2, ok1, ok2⟩
      obtain ⟨z0, z1, z2, hz⟩ := os.well
      refine ⟨_, rfl, .inl ⟨rfl, _, SqL.of os.hL⟩, _, rfl, w, z0, z1, z2, _, rfl, hz, (by decide), (by decide), fun d1 a0 a2 l1 u1 => ⟨_, _, rfl, rfl, ?_⟩⟩
      have os1 := os.upw (c0 := a0) (c1 := z1) (c2 := a2)
      generalize upd H w (.lst [.int a0, .int z1, .int a2]) = Ha at os1 ⊢
      obtain ⟨z0, z1, z2, hz⟩ := os1.well
      refine ⟨_, rfl, w, z0, z1, z2, _, rfl, hz, (by decide), (by decide), fun d2 a0 a2 l2 u2 => ⟨_, _, rfl, rfl, ?_⟩⟩
      have os2 := os1.upw (c0 := a0) (c1 := z1) (c2 := a2)
      generalize upd Ha w (.lst [.int a0, .int z1, .int a2]) = Hb at os2 ⊢
      obtain ⟨z0, z1, z2, hz⟩ := os2.well
      refine ⟨_, rfl, w, z0, z1, z2, _, rfl, hz, (by decide), (by decide), fun d3 a0 a2 l3 u3 => ⟨_, _, rfl, rfl, by show 4 ≤ sizeLine; decide, fun p hp => ?_⟩⟩
      have os3 := (os2.upw (c0 := a0) (c1 := z1) (c2 := a2)).new (o := .lst [.int (1 + d1), .int (1 + d2), .int (20 - d3), .int 4]) hp
      obtain ⟨v, hv, hvv⟩ := four_at (1 + d1) (1 + d2) (20 - d3) 4 way way0 way4
      have hv1 : 1 ≤ v ∧ v ≤ 20 := by omega
      refine ⟨_, rfl, p, _, way, _, rfl, rfl, SqL.of upd_same, hv, ?_⟩
      generalize upd (upd Hb w (.lst [.int a0, .int z1, .int a2])) p (.lst [.int (1 + d1), .int (1 + d2), .int (20 - d3), .int 4]) = Hc at os3 ⊢
      refine ⟨L, _, _, rfl, rfl, os3.hL, by rw [List.length_map]; exact small1000 (by omega), ?_⟩
      have os4 := os3.pushL (v := v)
      generalize upd Hc L (.lst (ls.map V.int ++ [.int v])) = Hd at os4 ⊢
      -- row
      refine ⟨Nat.zero_le _, fun R hR => ?_⟩
      have or0 : OR w L S R H0 (ls ++ [v]) qs bs [] (upd Hd R (.lst [])) := ⟨os4.new hR, os4.but.free os4.well hR, os4.wellNe hR, ne_of_none os4.hL hR, ne_of_none os4.hS hR, upd_same⟩
      generalize upd Hd R (.lst []) = He at or0 ⊢
      refine ⟨_, rfl, _, rfl, (by omega), (by omega), for_range (lo := 0) (n := r) (fun j σ H => ∃ v9, σ = [some (.ref w), some (.int g), some (.int way), some (.int m), some (.int r), some (.ref L), some (.ref S), some (.int (0 + (i : Int))), some (.ref R), v9] ∧
        ∃ row, OR w L S R H0 (ls ++ [v]) qs bs row H ∧ row.length = j ∧ ∀ b ∈ row, 1 ≤ b ∧ b ≤ 1000) ⟨v9, rfl, [], or0, rfl, fun _ z => nomatch z⟩ ?_ ?_⟩
      · rintro j σ H hj ⟨v9, rfl, row, os, e3, ok3⟩
        obtain ⟨z0, z1, z2, hz⟩ := os.os.well
        refine ⟨_, rfl, .inl ⟨rfl, _, SqL.of os.hR⟩, _, rfl, w, z0, z1, z2, _, rfl, hz, (by decide), (by decide), fun d1 a0 a2 l1 u1 => ⟨_, _, rfl, rfl, ?_⟩⟩
        have os1 := os.upw (c0 := a0) (c1 := z1) (c2 := a2)
        generalize upd H w (.lst [.int a0, .int z1, .int a2]) = Ha at os1 ⊢
        obtain ⟨z0, z1, z2, hz⟩ := os1.os.well
        refine ⟨_, rfl, w, z0, z1, z2, _, rfl, hz, (by decide), (by decide), fun d2 a0 a2 l2 u2 => ⟨_, _, rfl, rfl, ?_⟩⟩
        have os2 := os1.upw (c0 := a0) (c1 := z1) (c2 := a2)
        generalize upd Ha w (.lst [.int a0, .int z1, .int a2]) = Hb at os2 ⊢
        obtain ⟨z0, z1, z2, hz⟩ := os2.os.well
        refine ⟨_, rfl, w, z0, z1, z2, _, rfl, hz, (by decide), (by decide), fun d3 a0 a2 l3 u3 => ⟨_, _, rfl, rfl, _, rfl, _, _, rfl, rfl, .inl ⟨by decide, by decide⟩, _, _, rfl, rfl, by show 4 ≤ sizeLine; decide, fun p hp => ?_⟩⟩
        have os3 := (os2.upw (c0 := a0) (c1 := z1) (c2 := a2)).new (o := .lst [.int (1 + d1), .int (1 + d2), .int (1000 - d3), .int (10 * (0 + (j : Int)) + 9)]) hp
        obtain ⟨v, hv, hvv⟩ := four_at (1 + d1) (1 + d2) (1000 - d3) (10 * (0 + (j : Int)) + 9) way way0 way4
        have hv1 : 1 ≤ v ∧ v ≤ 1000 := by omega
        refine ⟨_, rfl, p, _, way, _, rfl, rfl, SqL.of upd_same, hv, ?_⟩
        generalize upd (upd Hb w (.lst [.int a0, .int z1, .int a2])) p (.lst [.int (1 + d1), .int (1 + d2), .int (1000 - d3), .int (10 * (0 + (j : Int)) + 9)]) = Hc at os3 ⊢
        refine ⟨R, _, _, rfl, rfl, os3.hR, by rw [List.length_map]; exact small1000 (by omega), ?_⟩
        refine ⟨some (.int (0 + (j : Int))), rfl, row ++ [v], os3.push, by rw [List.length_append, e3]; rfl, fun b hb => ?_⟩
        rcases List.mem_append.mp hb with q | q
        · exact ok3 b q
        · rw [List.mem_singleton.mp q]; exact hv1
      · rintro σ H ⟨v9, rfl, row, os, e3, ok3⟩
        refine ⟨_, rfl, .inl ⟨rfl, _, SqL.of os.os.hS⟩, _, rfl, R, _, rfl, .inl ⟨SqL.of os.hR, fun q hq => ?_⟩⟩
        have os1 := os.os.new (o := .tup (row.map V.int)) hq
        refine ⟨S, _, _, rfl, rfl, os1.hS, by rw [List.length_map, os1.rows.length]; exact small1000 (by omega), ?_⟩
        refine ⟨_, _, _, rfl, ls ++ [v], qs ++ [q], bs ++ [row], os1.pushS upd_same, by rw [List.length_append, e1]; rfl, by rw [List.length_append, e2]; rfl, fun l hl => ?_, fun l hl => ?_⟩
        · rcases List.mem_append.mp hl with q | q
          · exact ok1 l q
          · rw [List.mem_singleton.mp q]; exact hv1
        · rcases List.mem_append.mp hl with q | q
          · exact ok2 l q
          · rw [List.mem_singleton.mp q]; exact ⟨e3, ok3⟩
    · rintro σ H ⟨v7, v8, v9, rfl, ls, qs, bs, os, e1, e2, ok1, ok2⟩
      refine ⟨_, rfl, L, _, rfl, .inl ⟨SqL.of os.hL, fun a ha => ⟨_, rfl, S, _, rfl, .inl ⟨SqL.of (os.new (o := .tup (ls.map V.int)) ha).hS, fun b hb => ⟨by show 2 ≤ sizeLine; decide, fun p hp => ?_⟩⟩⟩⟩⟩
      have o1 := os.new (o := .tup (ls.map V.int)) ha
      have o2 := o1.new (o := .tup (qs.map V.ref)) hb
      have o3 := o2.new (o := .tup [.ref a, .ref b]) hp
      have ab : a ≠ b := ne_of_none (upd_same (H := H) (a := a) (o := .tup (ls.map V.int))) hb
      have bp : b ≠ p := ne_of_none (upd_same (a := b) (o := .tup (qs.map V.ref))) hp
      have ap : a ≠ p := ne_of_none (show upd (upd H a (.tup (ls.map V.int))) b (.tup (qs.map V.ref)) a = some (.tup (ls.map V.int)) by rw [upd_ne ab, upd_same]) hp
      refine k _ p ls bs o3.but o3.well ⟨a, b, qs, upd_same, ?_, ?_, o3.rows⟩ ⟨by omega, by omega, by omega, ok1, r, by omega, by omega, ok2⟩
      · rw [upd_ne ap, upd_ne ab, upd_same]
      · rw [upd_ne bp, upd_same]
end
end Rp

namespace Rp
open PySem PySem.Spec PyProof.Rows L2
/-! ### a def whose promise wants that nothing is being shown (repr) around it -/
structure FnG (P : Program) (w : World) (K : PySem.W.Frag) (mg : Str → Option Value) (base : Heap) (CX : CXT) (k : Nat) (f : Addr) (fd : FuncData) (ps : List Str) (sp : Sp) : Prop where
  len : ∀ vs H Q E, sp vs H Q E → vs.length = ps.length
  go : ∀ (A : Around) (outer : List Env) (s : Shared) (H : Hp) (args : Args) (us : List Value) (vs : List V) (Q : VK) (E : XK), A.guards = some [] → Room k A → Env0 P w K mg base A outer s H →
    BindsTo s fd args (ps.zip us) → Vals vs us → sp vs H Q E → codeAny (model P w) A (.call (.ref f) args) (CR CX outer P w H s Q E) s
theorem FnG.of {P : Program} {w : World} {K : PySem.W.Frag} {mg : Str → Option Value} {base : Heap} {CX : CXT} {k : Nat} {f : Addr} {fd : FuncData} {ps : List Str} {sp : Sp} (F : FnOk P w K mg base CX k f fd ps sp) : FnG P w K mg base CX k f fd ps sp :=
  ⟨F.len, fun A outer s H args us vs Q E _ => F.run A outer s H args us vs Q E⟩
theorem deeper_guards {A : Around} {env : Env} (h : A.guards = some []) : (A.deeper env).guards = some [] := h
section
variable {P : Program} {w : World} {K : PySem.W.Frag} {mg : Str → Option Value} {base : Heap} {CX : CXT}
/-- a def by its body, the guards known -/
theorem fnG_of {x qual : Str} {st : Stmt} {f : Addr} {fd : FuncData} {N ps : List Str} {k : Nat} {sp : Sp} (F : Fun K x qual st f fd) (S : FnScope N ps (defScope st)) (len : ∀ vs H Q E, sp vs H Q E → vs.length = ps.length)
    (hb : ∀ (cdv : Value) (A : Around) (outer : List Env) (s : Shared) (H : Hp) (vs : List V) (Q : VK) (E : XK), (A.deeper (envOfC qual (defScope st) s.heap.objs.size f cdv)).guards = some [] → Room k (A.deeper (envOfC qual (defScope st) s.heap.objs.size f cdv)) → sp vs H Q E →
      ∃ t, PSs (cxOf CX P w K mg base N qual (defScope st) f cdv A outer s H E) (defBody st) t ∧ t { nx := fun _ H' => Q .non H', rt := Q } (start N vs) H) : FnG P w K mg base CX (k + 1) f fd ps sp := by
  obtain ⟨oc, od, kV, doc, pm, an, cdv, ct, osl, rfl, lk, hcd⟩ := F.ex
  refine ⟨len, fun A outer s H args us vs Q E gA room en bi rel want => ?_⟩
  have kept : ∀ b o, base.get? b = some o → s.heap.get? b = some o := fun b o e => (en.bs b o e).1
  have inK : K.In s.heap := en.mod.kin.keeps kept
  refine codeAny_call_function room.depth (inK _ _ lk) rfl S.co S.gen rfl (PySem.W.codeRec_of inK hcd) (bi _ _ _ _ ?_)
  refine wpAny_newFunctionEnv_cells S.kind (fun y hy => ?_) fun env he s1 made => ?_
  · rcases S.par y.1 (List.of_mem_zip (show (y.1, y.2) ∈ ps.zip us from hy)).1 with q | q
    · exact .inl q
    · exact .inr ⟨q, PySem.W.cellsFrom_some _ _ _ (.inl q)⟩
  subst he
  refine ⟨(en.mod.nolimit.keeps kept).keeps made.toInCall.keep, codeAny_func ?_⟩
  obtain ⟨t, body, reads⟩ := hb cdv A outer s H vs Q E (deeper_guards gA) (room.deeper _) want
  refine wpAny_mono (body.run [] s1 (start N vs) H _ (inv_start S room.hd en (len _ _ _ _ want) rel made) reads) (fun fl s' hs => ?_) fun e s' hs => hs
  cases fl with
  | ret u =>
    obtain ⟨v, σ', H', J, rv, q⟩ := hs
    exact ⟨v, H', J.os, J.bare, J.base, J.hok, rv, q⟩
  | next =>
    obtain ⟨σ', H', J, q⟩ := hs
    exact ⟨V.non, H', J.os, J.bare, J.base, J.hok, rfl, q⟩
  | brk => exact absurd hs (fun ⟨_, _, _, z⟩ => (z : False))
  | cont => exact absurd hs (fun ⟨_, _, _, z⟩ => (z : False))
/-- .. that lets no error out -/
theorem okG {x qual : Str} {st : Stmt} {f : Addr} {fd : FuncData} {N ps : List Str} {k : Nat} {sp : Sp} (F : Fun K x qual st f fd) (S : FnScope N ps (defScope st)) (len : ∀ vs H Q E, sp vs H Q E → vs.length = ps.length)
    (hb : ∀ (cdv : Value) (A : Around) (outer : List Env) (s : Shared) (H : Hp) (vs : List V) (Q : VK) (E : XK), (A.deeper (envOfC qual (defScope st) s.heap.objs.size f cdv)).guards = some [] → Room k (A.deeper (envOfC qual (defScope st) s.heap.objs.size f cdv)) → sp vs H Q E →
      ∃ t, PSs (cxOf CX P w K mg base N qual (defScope st) f cdv A outer s H E).nox (defBody st) t ∧ t { nx := fun _ H' => Q .non H', rt := Q } (start N vs) H) : FnG P w K mg base CX (k + 1) f fd ps sp :=
  fnG_of F S len fun cdv A outer s H vs Q E gA room want => let ⟨t, body, reads⟩ := hb cdv A outer s H vs Q E gA room want; ⟨t, body.nox, reads⟩
end
section
variable {X : Cx} {CX : CXT} {k : Nat} {f C : Addr} {fd : FuncData} {ps : List Str} {sp : Sp} {E : XK} {x m : Str} {p pos apos : Pos} {e o : Expr} {es : List Expr} {ta : TE} {t : TA}
theorem runG {pins : List (Addr × Obj)} {σ : L2.St} {H : Hp} {s : Shared} {Q : VK} {us : List Value} {vs : List V} (F : FnG X.prog X.w X.K X.mg X.base CX k f fd ps sp) (gA : X.A.guards = some []) (room : Room k X.A) (hb : L2.Binds X.K fd ps [])
    (hx : Passes CX X E) (I : Inv X pins σ H s) (r : Vals vs us) (h : sp vs H Q E) : wpAny (model X.prog X.w) X.A (call (.ref f) us) (EP X pins σ Q) X.xe s := by
  have hl : (us ++ []).length = ps.length := by rw [List.append_nil, ← r.length]; exact F.len _ _ _ _ h
  have bi := hb s us I.kIn hl
  rw [List.append_nil] at bi
  refine wpAny_call (codeAny_mono (F.go X.A X.stack s H ⟨us, []⟩ us vs Q E gA room I.env0 bi r h) fun res s' hq => ?_)
  cases res with
  | error e => exact hx pins σ H s e s' I hq
  | ok fl =>
    cases fl with
    | ret u => exact I.after hq
    | next => exact hq.elim
    | brk => exact hq.elim
    | cont => exact hq.elim
def tCallG (sp : Sp) (E : XK) (t : TA) : TE := fun σ H Q => t σ H fun vs H1 => sp vs H1 Q E
theorem pe_callG (F : FnG X.prog X.w X.K X.mg X.base CX k f fd ps sp) (gA : X.A.guards = some []) (room : Room k X.A) (hg : Gl X x) (hm : X.mg x = some (.ref f)) (hk : PySem.W.keepIn X.K (.ref f) = true) (hb : L2.Binds X.K fd ps [])
    (hx : Passes CX X E) (ha : PA X (e :: es) t) (hdb : (x == ("__debug__" : Str)) = false := by decide) (hst : starEach (e :: es) X.env = (false, eval e X.env) :: starEach es X.env := by rfl)
    (hpl : (backTo pos (starEach es X.env)).any (·.1) = false := by rfl) : PE X (.Call (.Name x p) (e :: es) [] pos) (tCallG sp E t) :=
  ⟨fun pins s σ H Q I h => wpAny_Call_Name_kw (ld_glob I hg hm (PySem.W.callWith_K (h₀ := X.base) I.ok.mod.kin hk (thn (ha.run pos pins s σ H _ I h) fun us s1 ⟨vs, H1, I1, r, q⟩ => ⟨I1.kIn, runG F gA room hb hx I1 r q⟩) hst hpl) hdb)⟩
end
/-! ### repr of data -/
/-- what may be shown -/
structure Shw (d : PyData) : Prop where
  sh : d.showable = true
  nd : d.hasDict = false
  dp : d.depth ≤ 16
  sz : d.shown.length ≤ sizeLine
section
variable {X : Cx}
theorem call_reprD (gA : X.A.guards = some []) (hu : X.A.units + 64 < cLine) : CallR X (.builtin "repr") (fun xs H Q => ∃ x d, xs = [x] ∧ Dp X.K H x d ∧ Shw d ∧ Q (.str d.shown) H) := by
  intro pins s σ H xs us Q I r h
  obtain ⟨x, d, rfl, hd, hw, q⟩ := h
  cases r with
  | cons rx rn =>
    cases rn
    have dp := hw.dp
    cases hd with
    | non => cases rx; exact PySem.P.repr_of_none ⟨.str _, H, I.tok _, ⟨_, rfl⟩, q⟩
    | bl b => cases rx; exact PySem.P.repr_of_bool ⟨.str _, H, I.tok _, ⟨_, rfl⟩, q⟩
    | int i =>
      obtain ⟨t, rfl⟩ := rx
      exact PySem.P.repr_of_int (by have := hw.sh; simpa [PyData.showable] using this) ⟨.str _, H, I.tok _, ⟨_, rfl⟩, q⟩
    | str z =>
      obtain ⟨t, rfl⟩ := rx
      exact PySem.P.repr_of_str ⟨.str _, H, I.tok _, ⟨_, rfl⟩, q⟩ hw.sz
    | @lst a xs ds h1 h2 =>
      obtain ⟨as, rd⟩ := Dp.reads I (.list ds) (.ref a) _ (.lst h1 h2) rx
      cases rx
      exact repr_of_reads' rd hw.sh (PyData.noDict_hsm hw.nd) gA (by omega) (fun _ _ z => z) (fun h' u tk kp => ⟨.str _, H, I.kept kp, ⟨_, rfl⟩, q⟩) hw.sz
    | @tup a xs ds h1 h2 =>
      obtain ⟨as, rd⟩ := Dp.reads I (.tuple ds) (.ref a) _ (.tup h1 h2) rx
      cases rx
      exact repr_of_reads' rd hw.sh (PyData.noDict_hsm hw.nd) gA (by omega) (fun _ _ z => z) (fun h' u tk kp => ⟨.str _, H, I.kept kp, ⟨_, rfl⟩, q⟩) hw.sz
end
end Rp

namespace Rp
open PySem PySem.Spec PyProof.Rows L2
/-! ### ranges, sums -/
section
variable {X : Cx}
/-- range(n), as a value -/
theorem call_range1 : CallR X (.type "range") (fun vs H Q => ∃ n : Int, vs = [V.int n] ∧ ∀ p, H p = none → Q (.ref p) (upd H p (.rng 0 n))) := by
  intro pins s σ H vs us Q I r h
  obtain ⟨n, rfl, q⟩ := h
  cases r with
  | cons r1 rr =>
    cases rr
    obtain ⟨t, rfl⟩ := r1
    refine call_range_1 ⟨.ref s.heap.objs.size, upd H s.heap.objs.size (.rng 0 n), I.laid (a := s.heap.objs.size) (o := .rng 0 n) (fun b o e => Heap.get?_push_of_some _ e) (Nat.le_refl _) ?_, rfl, q _ (I.hok.fresh (Nat.le_refl _))⟩
    exact ⟨_, _, _, Heap.get?_push_size _ rfl⟩
/-- len of a range -/
theorem call_lenRng : CallR X (.builtin "len") (fun vs H Q => ∃ (a : Addr) (n : Nat), vs = [V.ref a] ∧ H a = some (.rng 0 n) ∧ n < 2 ^ 62 ∧ Q (.int n) H) := by
  intro pins s σ H vs us Q I r h
  obtain ⟨a, n, rfl, ha, hn, q⟩ := h
  cases r with
  | cons r1 rr =>
    cases rr
    cases r1
    obtain ⟨t1, t2, t3, ho⟩ := I.hok a _ ha
    refine call_len_range (n := n) ho ?_ (by omega) ⟨.int n, H, I.tok _, ⟨_, rfl⟩, q⟩
    unfold Builtin.Range.rangeSize
    simp
    try omega
/-- sum of a tuple of whole numbers -/
theorem call_sumT (hc : X.calm = true) : CallR X (.builtin "sum") (fun vs H Q => ∃ (a : Addr) (ns : List Int), vs = [V.ref a] ∧ SqT X.K H a (ns.map V.int) ∧ Q (.int ns.sum) H) := by
  intro pins s σ H vs us Q I r h
  obtain ⟨a, ns, rfl, ha, q⟩ := h
  cases r with
  | cons r1 rr =>
    cases rr
    cases r1
    obtain ⟨its, rv, hl, _⟩ := I.tuple ha
    have hi := rv.ints
    obtain ⟨xs, hx⟩ := hi.allInts.items
    have hn : numsOf its.toArray.toList = ns := by rw [show its.toArray.toList = its from rfl, hi.numsOf]
    rw [hx] at hl hn
    rw [nums_intItems] at hn
    refine PySem.W.ktm_sumG (I.ok.hd hc) hl fun h' tk t' hk => ?_
    rw [preSum_eq, List.take_of_length_le (by simp), hn]
    exact ⟨.int ns.sum, H, I.kept hk, ⟨_, rfl⟩, q⟩
end
/-! ### len(x), x's own __len__ -/
section
variable {X : Cx} {CX : CXT} {k : Nat} {f C : Addr} {fd : FuncData} {ps : List Str} {sp : Sp} {E : XK}
def rLenI (C : Addr) (sp : Sp) (E : XK) : List V → Hp → VK → Prop := fun xs H Q => ∃ (a dx : Addr) (fs : List (Str × V)), xs = [.ref a] ∧ H a = some (.ins C dx fs) ∧ sp [.ref a] H (fun v H' => ∃ n : Nat, v = .int n ∧ n < 2 ^ 62 ∧ Q (.int n) H') E
theorem call_lenI (F : FnOk X.prog X.w X.K X.mg X.base CX k f fd ps sp) (hs : PySem.W.findIn X.K (.ref C) "__len__" = some (some (.ref f))) (hf : PySem.W.isFn X.K (.ref f) = true) (hb : L2.Binds X.K fd ps []) (hx : Passes CX X E) (hr : Room (k + 1) X.A) :
    CallR X (.builtin "len") (rLenI C sp E) := by
  intro pins s σ H vs us Q I r h
  obtain ⟨a, dx, fs, rfl, ha, hsp⟩ := h
  cases r with
  | cons r1 rr =>
    cases rr
    cases r1
    obtain ⟨mA, J, _⟩ := ins_get I.hok ha
    obtain ⟨od, J, _⟩ := J.look
    obtain ⟨m, hF⟩ := I.fr
    have e0 : Env0 X.prog X.w X.K X.mg X.base X.A.in1 X.stack s H := by
      have e := I.env0
      exact ⟨e.frames, e.mod, e.bs, e.bsz, e.funs, e.frf, e.hok, e.bare⟩
    have hl := F.len _ _ _ _ hsp
    refine PySem.W.len_K hF I.ok.mod.kin J hs hf (wpAny_call (codeAny_mono (F.run X.A.in1 X.stack s H ⟨[.ref a], []⟩ [.ref a] [.ref a] _ E hr.in1 e0 (by
      have := hb s [.ref a] I.kIn (by simpa using hl)
      simpa using this) (.cons rfl .nil) hsp) fun r s' hq => ?_))
    cases r with
    | error e => exact hx pins σ H s e s' I hq
    | ok fl =>
      cases fl with
      | ret w =>
        obtain ⟨z, H', I', rz, n, ez, hn, q⟩ := I.after hq
        subst ez
        obtain ⟨t, rfl⟩ := rz
        show PySem.W.LenBack _ _ _
        exact ⟨⟨by omega, by omega⟩, .int n, H', I'.tok _, ⟨_, rfl⟩, q⟩
      | next => exact False.elim hq
      | brk => exact False.elim hq
      | cont => exact False.elim hq
end
/-! ### a def that may be called while an error is handled, too; nothing is being shown around it -/
structure RoomA (k : Nat) (A : Around) : Prop where
  dp : A.depth + 3 * k + 5 < recursionLimit
  un : A.units + 16 * k + 200 < cLine
theorem RoomA.of {k : Nat} {A : Around} (r : Room k A) : RoomA k A := ⟨r.dp, r.un⟩
structure FnA (P : Program) (w : World) (K : PySem.W.Frag) (mg : Str → Option Value) (base : Heap) (CX : CXT) (k : Nat) (f : Addr) (fd : FuncData) (ps : List Str) (sp : Sp) : Prop where
  len : ∀ vs H Q E, sp vs H Q E → vs.length = ps.length
  go : ∀ (A : Around) (outer : List Env) (s : Shared) (H : Hp) (args : Args) (us : List Value) (vs : List V) (Q : VK) (E : XK), A.guards = some [] → RoomA k A → Env0 P w K mg base A outer s H →
    BindsTo s fd args (ps.zip us) → Vals vs us → sp vs H Q E → codeAny (model P w) A (.call (.ref f) args) (CR CX outer P w H s Q E) s
/-- the body's context -/
def cxA (CX : CXT) (P : Program) (w : World) (K : PySem.W.Frag) (mg : Str → Option Value) (base : Heap) (N : List Str) (qual : Str) (scope : Scope) (f : Addr) (cd : Value) (A : Around) (outer : List Env) (s : Shared) (H : Hp) (E : XK) : Cx :=
  { cxOf CX P w K mg base N qual scope f cd A outer s H E with calm := false }
section
variable {P : Program} {w : World} {K : PySem.W.Frag} {mg : Str → Option Value} {base : Heap} {CX : CXT}
theorem startA {N ps : List Str} {qual : Str} {scope : Scope} {f : Addr} {cd : Value} {A : Around} {outer : List Env} {s s1 : Shared} {H : Hp} {E : XK} {us : List Value} {vs : List V}
    (S : FnScope N ps scope) (e0 : Env0 P w K mg base A outer s H) (hl : vs.length = ps.length) (r : Vals vs us)
    (x : InCallC s s.heap.objs.size (bindL (envOfC qual scope s.heap.objs.size f cd).kindOf (ps.zip us) fun _ => none) (cellsFrom (s.heap.objs.size + 1) scope.names []) (bindC (envOfC qual scope s.heap.objs.size f cd).kindOf (ps.zip us) fun _ => none) s1) :
    Inv (cxA CX P w K mg base N qual scope f cd A outer s H E) [] (start N vs) H s1 := by
  have I := inv_start (CX := CX) (A := { A with handled := none }) (E := E) S rfl (⟨e0.frames, e0.mod, e0.bs, e0.bsz, e0.funs, e0.frf, e0.hok, e0.bare⟩ : Env0 P w K mg base { A with handled := none } outer s H) hl r x
  have o := I.ok
  exact ⟨⟨o.mod, o.kind, o.glob, o.blt, o.above, o.inj, o.has, o.cab, (fun z => Bool.noConfusion (show false = true from z)), o.frames, o.stk, o.exf, o.bs, o.bsz, o.noex, o.exfs, o.funs, o.frf⟩, I.os, I.bare, I.base, I.loc, I.cell, I.free, I.freeC, I.pin, I.hok, I.len⟩
theorem okA {x qual : Str} {st : Stmt} {f : Addr} {fd : FuncData} {N ps : List Str} {k : Nat} {sp : Sp} (F : Fun K x qual st f fd) (S : FnScope N ps (defScope st)) (len : ∀ vs H Q E, sp vs H Q E → vs.length = ps.length)
    (hb : ∀ (cdv : Value) (A : Around) (outer : List Env) (s : Shared) (H : Hp) (vs : List V) (Q : VK) (E : XK), (A.deeper (envOfC qual (defScope st) s.heap.objs.size f cdv)).guards = some [] → (A.deeper (envOfC qual (defScope st) s.heap.objs.size f cdv)).units + 200 < cLine → sp vs H Q E →
      ∃ t, PSs (cxA CX P w K mg base N qual (defScope st) f cdv A outer s H E) (defBody st) t ∧ t { nx := fun _ H' => Q .non H', rt := Q } (start N vs) H) : FnA P w K mg base CX (k + 1) f fd ps sp := by
  obtain ⟨oc, od, kV, doc, pm, an, cdv, ct, osl, rfl, lk, hcd⟩ := F.ex
  refine ⟨len, fun A outer s H args us vs Q E gA room en bi rel want => ?_⟩
  have kept : ∀ b o, base.get? b = some o → s.heap.get? b = some o := fun b o e => (en.bs b o e).1
  have inK : K.In s.heap := en.mod.kin.keeps kept
  refine codeAny_call_function (by have := room.dp; omega) (inK _ _ lk) rfl S.co S.gen rfl (PySem.W.codeRec_of inK hcd) (bi _ _ _ _ ?_)
  refine wpAny_newFunctionEnv_cells S.kind (fun y hy => ?_) fun env he s1 made => ?_
  · rcases S.par y.1 (List.of_mem_zip (show (y.1, y.2) ∈ ps.zip us from hy)).1 with q | q
    · exact .inl q
    · exact .inr ⟨q, PySem.W.cellsFrom_some _ _ _ (.inl q)⟩
  subst he
  refine ⟨(en.mod.nolimit.keeps kept).keeps made.toInCall.keep, codeAny_func ?_⟩
  obtain ⟨t, body, reads⟩ := hb cdv A outer s H vs Q E (deeper_guards gA) (by have := room.un; show A.units + 3 + 200 < _; omega) want
  refine wpAny_mono (body.run [] s1 (start N vs) H _ (startA S en (len _ _ _ _ want) rel made) reads) (fun fl s' hs => ?_) fun e s' hs => hs
  cases fl with
  | ret u =>
    obtain ⟨v, σ', H', J, rv, q⟩ := hs
    exact ⟨v, H', J.os, J.bare, J.base, J.hok, rv, q⟩
  | next =>
    obtain ⟨σ', H', J, q⟩ := hs
    exact ⟨V.non, H', J.os, J.bare, J.base, J.hok, rfl, q⟩
  | brk => exact absurd hs (fun ⟨_, _, _, z⟩ => (z : False))
  | cont => exact absurd hs (fun ⟨_, _, _, z⟩ => (z : False))
end
/-! ### repr(x), {x!r} -/
section
variable {X : Cx} {CX : CXT} {k : Nat} {f C : Addr} {fd : FuncData} {ps : List Str} {sp : Sp} {E : XK}
/-- {x!r} of small data -/
def tFmtRD (K : PySem.W.Frag) (te : TE) : TE := fun σ H Q => te σ H fun x H1 => ∃ (a : Addr) (d : PyData), x = .ref a ∧ Dp K H1 x d ∧ Shw d ∧ Q (.str d.shown) H1
theorem pe_fmtRD {e : Expr} {te : TE} {pos : Pos} (gA : X.A.guards = some []) (hu : X.A.units + 64 < cLine) (he : PE X e te) : PE X (.FormattedValue e 114 none pos) (tFmtRD X.K te) := by
  refine ⟨fun pins s σ H Q I h => ?_⟩
  refine wpAny_FormattedValue_repr (thn (he.run pins s σ H _ I h) fun v s1 hv => ?_)
  obtain ⟨x, H1, I1, r1, a, d, rfl, hd, hw, q⟩ := hv
  obtain ⟨as, rd⟩ := Dp.reads I1 d (.ref a) _ hd r1
  cases r1
  have dp := hw.dp
  refine pyReprObj_of_reads rd hw.sh (PyData.noDict_hsm hw.nd) gA (by omega) (fun _ _ z => z) (fun h' u tk kp => ?_) hw.sz
  exact wpAny_formatField_str ⟨.str d.shown, H1, I1.kept kp, ⟨_, rfl⟩, q⟩ ⟨.str d.shown, H1, (I1.kept (t' := tk) kp).tok _, ⟨_, rfl⟩, q⟩ hw.sz
def rReprI (C : Addr) (sp : Sp) (E : XK) : List V → Hp → VK → Prop := fun xs H Q => ∃ (a dx : Addr) (fs : List (Str × V)), xs = [.ref a] ∧ H a = some (.ins C dx fs) ∧ sp [.ref a] H (fun v H' => ∃ t : Str, v = .str t ∧ Q (.str t) H') E
theorem call_reprI (F : FnA X.prog X.w X.K X.mg X.base CX k f fd ps sp) (hs : PySem.W.findIn X.K (.ref C) "__repr__" = some (some (.ref f))) (hf : PySem.W.isFn X.K (.ref f) = true) (hb : L2.Binds X.K fd ps []) (hx : Passes CX X E) (gA : X.A.guards = some []) (hr : RoomA (k + 1) X.A) :
    CallR X (.builtin "repr") (rReprI C sp E) := by
  intro pins s σ H vs us Q I r h
  obtain ⟨a, dx, fs, rfl, ha, hsp⟩ := h
  cases r with
  | cons r1 rr =>
    cases rr
    cases r1
    obtain ⟨mA, J, _⟩ := ins_get I.hok ha
    obtain ⟨od, J, _⟩ := J.look
    obtain ⟨m, hF⟩ := I.fr
    have e0 : Env0 X.prog X.w X.K X.mg X.base X.A.in1 X.stack s H := by
      have e := I.env0
      exact ⟨e.frames, e.mod, e.bs, e.bsz, e.funs, e.frf, e.hok, e.bare⟩
    have hl := F.len _ _ _ _ hsp
    have d1 := hr.dp
    have u1 := hr.un
    refine PySem.W.repr_K (by show X.A.units + 1 < _; omega) hF I.ok.mod.kin J hs hf (wpAny_call (codeAny_mono (F.go X.A.in1 X.stack s H ⟨[.ref a], []⟩ [.ref a] [.ref a] _ E gA ⟨by show X.A.depth + 3 * k + 5 < _; omega, by show X.A.units + 1 + 16 * k + 200 < _; omega⟩ e0 (by
      have := hb s [.ref a] I.kIn (by simpa using hl)
      simpa using this) (.cons rfl .nil) hsp) fun r s' hq => ?_))
    cases r with
    | error e => exact hx pins σ H s e s' I hq
    | ok fl =>
      cases fl with
      | ret w =>
        obtain ⟨z, H', I', rz, t, ez, q⟩ := I.after hq
        subst ez
        obtain ⟨tk, rfl⟩ := rz
        show PySem.W.StrBack _ _ _
        exact ⟨.str t, H', I', ⟨_, rfl⟩, q⟩
      | next => exact False.elim hq
      | brk => exact False.elim hq
      | cont => exact False.elim hq
/-- a dict of small numbers -/
def DkAt (H : Hp) (v : V) (d : PyData) : Prop := ∃ (a : Addr) (ns : List (Int × Int)), v = .ref a ∧ H a = some (.dK (ns.map fun p => (Sum.inl p.1, V.int p.2))) ∧ d = .dict (ns.map fun p => (.int p.1, .int p.2))
theorem dk_pairs {h : Heap} : ∀ {ns : List (Int × Int)} {vs : List (Key × Value)}, KV (ns.map fun p => ((Sum.inl p.1 : Key), V.int p.2)) vs → ∃ bs, PyProof.V.PairsRead h (fun k : Key => match k with | .inl i => PyData.int i | .inr x => PyData.str x) vs (ns.map fun p => (.int p.1, .int p.2)) bs
  | [], _, r => by
    cases r
    exact ⟨_, .nil⟩
  | p :: ns, _, r => by
    cases r with
    | @cons _ q _ qs e t =>
      obtain ⟨qk, qv⟩ := q
      obtain ⟨e1, tk, e2⟩ := e
      obtain ⟨bs, ih⟩ := dk_pairs (h := h) t
      simp only at e1 e2
      subst e1 e2
      exact ⟨_, .cons (.int _ _) ih⟩
theorem dk_reads {pins : List (Addr × Obj)} {σ : L2.St} {H : Hp} {s : Shared} {v : V} {d : PyData} {u : Value} (I : Inv X pins σ H s) (h : DkAt H v d) (r : RelV v u) : ∃ a as, u = .ref a ∧ Reads s.heap (.ref a) d as ∧ sysModules ∉ as := by
  obtain ⟨a, ns, rfl, ha, rfl⟩ := h
  cases r
  obtain ⟨_, hne, vs, rel, dd⟩ := I.hok a _ ha
  obtain ⟨bs, pr⟩ := dk_pairs (h := s.heap) rel
  have nb : bs = [] := by
    clear dd rel
    generalize hD : (ns.map fun p => (PyData.int p.1, PyData.int p.2)) = D at pr
    have : ∀ {kvs : List (Key × Value)} {D : List (PyData × PyData)} {bs : List Addr} {ns : List (Int × Int)}, (ns.map fun p => (PyData.int p.1, PyData.int p.2)) = D → PyProof.V.PairsRead s.heap (fun k : Key => match k with | .inl i => PyData.int i | .inr x => PyData.str x) kvs D bs → bs = [] := by
      intro kvs D bs ns e p
      induction p generalizing ns with
      | nil => rfl
      | @cons k' v' d' as kvs D bs r _ ih =>
        cases ns with
        | nil => cases e
        | cons n ns =>
          injection e with e1 e2
          injection e1 with _ e3
          subst e3
          cases r
          rw [ih e2]
          rfl
    exact this hD pr
  subst nb
  refine ⟨a, [a], rfl, PyProof.V.reads_dictOf (fun k key hk => ?_) dd pr, fun z => ?_⟩
  · rcases keyIs_shape hk with ⟨i, t, rfl, rfl⟩ | ⟨x, t, rfl, rfl⟩
    · exact .int _ _
    · exact .str _ _
  · rw [List.mem_singleton.mp z] at hne
    simp at hne
end
end Rp

namespace Rp
open PySem PySem.Spec PyProof.Rows L2
/-! ### own errors over Exception whose __init__ is a def -/
abbrev exB : List Value := [.type "Exception", .type "BaseException", .type "object"]
structure ObxC (K : PySem.W.Frag) (C : Addr) : Prop where
  cls : ∃ nm q N bs bm sn sub ab col dd k0 k1 k2 k3 k5, K.lookup C = some (excClassObj nm q C N bs bm true sn sub ab col dd k0 k1 k2 k3 k5 "Exception.__new__") ∧ PySem.W.excTail exB bm = true
  sa : PySem.W.findIn K (.ref C) "__setattr__" = some (some (.builtin "object.__setattr__"))
  exC : PySem.W.subIn K (.ref C) (.type "BaseException") = some true
  tyC : PySem.W.typeIn K (.ref C) = some (.type "type")
  kC : PySem.W.keepIn K (.ref C) = true
section
variable {X : Cx} {pins : List (Addr × Obj)} {σ : L2.St} {H : Hp} {s : Shared} {a C dx : Addr} {f : Str} {y : V} {u : Value} {fs : List (Str × V)} {Q : Unit → Shared → Prop} {E : Value → Shared → Prop} {A : Around}
open PySem.Builtin PySem.Builtin.ObjectAttr in
/-- self.f = y, the first one -/
theorem obt_new (T : ObxC X.K C) (I : Inv X pins σ H s) (e : H a = some (exo a C none)) (hno : PySem.W.findIn X.K (.ref C) f = some none) (ry : RelV y u)
    (h : ∀ dx s', H dx = none → dx ≠ a → Inv X pins σ (upd (upd H dx (exd dx [(f, y)])) a (exo a C (some dx))) s' → Q () s') : wpAny (model X.prog X.w) A (setAttr (.ref a) f u) Q E s := by
  obtain ⟨nm, q, N, bs, bm, sn, sub, ab, col, dd, k0, k1, k2, k3, k5, hC, hbm⟩ := T.cls
  have hcl : PySem.W.clsIn X.K C = some { name := nm, bases := bs, mro := .ref C :: bm, ns := N, qualname := q, hasDict := true, slotNames := sn, subclasses := sub, abstract := ab, collection := col, hasDel := false } := by unfold PySem.W.clsIn; rw [hC] <;> rfl
  have hov : PySem.W.excOver X.K C exB = true := by
    unfold PySem.W.excOver
    rw [hcl]
    show (C == C && PySem.W.excTail exB bm) = true
    rw [hbm, beq_self_eq_true]
    rfl
  have htk : PySem.W.takerIn X.K C f = some none := by
    unfold PySem.W.takerIn
    rw [hno]
    rfl
  obtain ⟨t1, ho⟩ := exo_at I.hok e
  have kin := I.kIn
  obtain ⟨hp, g, d, t, os⟩ := s
  have hxs : a ≠ hp.objs.size := Nat.ne_of_lt (Heap.lt_size ho)
  have hcls : PySem.W.Looks (model X.prog X.w) hp (classData C) _ := PySem.W.looks_clsIn kin hcl
  refine PySem.W.set_plain I.kIn (ox := { cls := .ref C, dict := none, data := .fields #[.ref t1, .none, .none, .none, .bool false, .none] }) (od := none) ⟨ho, rfl, rfl, trivial⟩ T.sa ?_
  refine PySem.W.osa_openX (s := ⟨hp, g, d, t + 1, os⟩) (od := none) F.store_Exception kin ⟨ho, rfl, rfl, trivial⟩ hov htk fun b => ?_
  have last : ∀ h' tk' dx, (∀ b o, b ≠ a → hp.get? b = some o → h'.get? b = some o) → hp.objs.size ≤ dx → dx ≠ a → h'.get? a = some ({ cls := .ref C, dict := some dx, data := .fields #[.ref t1, .none, .none, .none, .bool false, .none] } : Obj) →
      h'.Ns1 dx (fun y => if y = f then some u else none) → Q () ⟨h', g, d, tk', os⟩ := fun h' tk' dx k dn dne hx hn => by
    have hnd : H dx = none := I.hok.fresh dn
    have nd : ∀ {b : Addr} {o : Obj}, hp.get? b = some o → b ≠ dx := fun {b o} q => Nat.ne_of_lt (Nat.lt_of_lt_of_le (Heap.lt_size q) dn)
    have na : ∀ {b : Addr}, H b = none → b ≠ a := fun {b} n z => by
      rw [z, e] at n
      cases n
    have Un1 : Un X.fs [] H (upd (upd H dx (exd dx [(f, y)])) a (exo a C (some dx))) hp h' := {
      keep := fun b o q n _ _ => k b o (na n) q
      slot := fun b o q n _ _ => ⟨o.slots, k b o (na n) q⟩
      free := fun b o q n _ => by rw [upd_ne (na n), upd_ne (nd q)]; exact n
      there := fun b o q _ => by
        by_cases hb : b = a
        · exact ⟨_, by rw [hb]; exact hx⟩
        · exact ⟨o, k b o hb q⟩
      tups := fun b xs q => by rw [upd_ne (at_ne e q exo_tup), upd_ne (ne_of_none q hnd)]; exact q
      frzs := fun b o v q => by rw [upd_ne (at_ne e q exo_frz), upd_ne (ne_of_none q hnd)]; exact q
      tbls := fun b ps q => ⟨#[], by rw [upd_ne (at_ne e q exo_tbl), upd_ne (ne_of_none q hnd), q]; simp⟩ }
    refine h dx _ hnd dne (I.un (t' := tk') Un1 fun b o q => ?_)
    by_cases hb : b = a
    · subst hb
      rw [upd_same] at q
      cases q
      exact exo_ok hx
    · rw [upd_ne hb] at q
      by_cases hd : b = dx
      · subst hd
        rw [upd_same] at q
        cases q
        exact exd_ok hn (relO_put (fs := []) ry fun g => True.intro)
      · rw [upd_ne hd] at q
        exact (I.hok b o q).stay (fun c v hc z => k c v (by
            rcases hc with hc | hc
            · rw [hc]
              exact hb
            · exact at_ne e hc exo_own) z)
          (fun c hc => by rw [upd_ne (at_ne e hc exo_own), upd_ne (ne_of_none hc hnd)]; exact hc) (fun c xs hc => by rw [upd_ne (at_ne e hc exo_tup), upd_ne (ne_of_none hc hnd)]; exact hc)
  show wpAny _ _ (storeInOwnDict (.ref a) (.ref C) (.str f _) f u b) _ _ _
  unfold storeInOwnDict ownDictForStores
  repeat (first | with_reducible refine PySem.HandSPX.store_in_new ?_ ?_ | with_reducible refine wpAny_loadPart_at ho ?_ | with_reducible refine hcls.at ?_ | wp_step)
  · exact ⟨_, #[], _, (Heap.get?_update_ne _ _ _ _ hxs.symm).trans (Heap.get?_push_at rfl rfl), rfl, fun e he => absurd he (by simp), fun _ => rfl⟩
  · intro h' tk' hn' hs
    have hx₁ : (hp.push { cls := .type "dict", data := .dict #[] }).get? a = some ({ cls := .ref C, dict := none, data := .fields #[.ref t1, .none, .none, .none, .bool false, .none] } : Obj) := Heap.get?_push_of_some _ ho
    refine last h' tk' hp.objs.size (fun b o hb ho => ?_) (Nat.le_refl _) hxs.symm ?_ hn'
    · exact (hs.2 b (Nat.ne_of_lt (Heap.lt_size ho))).trans ((Heap.get?_update_ne _ _ _ _ hb).trans (Heap.get?_push_of_some _ ho))
    · exact (hs.2 a hxs).trans (Heap.get?_update_self _ hx₁ rfl)
/-- Exception.__init__(self, ..) -/
theorem obinit_ok {us : List Value} {Q : Value → Shared → Prop} (T : ObxC X.K C) (I : Inv X pins σ H s) (e : H a = some (exo a C none)) (hl : us.length ≤ sizeLine) (h : ∀ s', Inv X pins σ H s' → Q .none s') :
    wpAny (model X.prog X.w) A (call (.builtin "Exception.__init__") (.ref a :: us)) Q E s := by
  obtain ⟨nm, q, N, bs, bm, sn, sub, ab, col, dd, k0, k1, k2, k3, k5, hC, hbm⟩ := T.cls
  obtain ⟨t1, ho⟩ := exo_at I.hok e
  obtain ⟨hp, g, d, t, os⟩ := s
  refine wpAny_call (PySem.HandSPX.init_base F.excBase_Exception (fun Y => PySem.W.excTail_contains Y bm hbm) (I.kIn _ _ hC) ho hl fun h' t2 k hx => ?_)
  have J := I.write (t' := t) (x := a) (e := a) (o := exo a C none) (by rw [e]; exact True.intro) (.inl rfl) k ⟨_, hx⟩ (exo_ok hx)
  have eu : upd H a (exo a C none) = H := by
    funext b
    by_cases hb : b = a
    · rw [hb, upd_same, e]
    · rw [upd_ne hb]
  rw [eu] at J
  exact h _ J
end
theorem typ_EX : typeOf (.type "Exception") = pure (.type "type") := by kernel_rfl
/-- Exception.__init__(self, ..) -/
def tExI (K : PySem.W.Frag) (ta : TA) : TE := fun σ H Q => ta σ H fun vs H1 => ∃ (a C : Addr) (ws : List V), vs = .ref a :: ws ∧ ws.length ≤ 1000 ∧ ObxC K C ∧ H1 a = some (exo a C none) ∧ Q .non H1
/-- self.f = e, the first one -/
def tObt (K : PySem.W.Frag) (f : Str) (to te : TE) : TS := fun D σ H => te σ H fun y H1 => to σ H1 fun x H2 => ∃ a C : Addr, x = .ref a ∧ ObxC K C ∧ PySem.W.findIn K (.ref C) f = some none ∧
  H2 a = some (exo a C none) ∧ ∀ dx, H2 dx = none → dx ≠ a → D.nx σ (upd (upd H2 dx (exd dx [(f, y)])) a (exo a C (some dx)))
section
variable {X : Cx} {o e : Expr} {es : List Expr} {to te : TE} {ta : TA} {f : Str} {p p' p1 p2 pos : Pos}
theorem pe_exinit {pl : Sem Bool} (hg : Gl X "Exception") (hm : X.mg "Exception" = none) (vV : PySem.W.findCls X.K (.type "Exception") (.type "type") "__init__" = some (.val (.builtin "Exception.__init__"))) (ha : PA X (e :: es) ta)
    (hc : eval (.Call (.Attribute (.Name "Exception" p1) "__init__" p2) (e :: es) [] pos) X.env = (do
      let ov ← eval (.Name "Exception" p1) X.env
      standAt p2.atName
      let (f, first) ← holding [ov] (getMethod ov "__init__" pl)
      callWith pos f first (backTo pos (starEach (e :: es) X.env)) (backToKw pos (keywordEach [] X.env))) := by rfl)
    (he : starEach (e :: es) X.env = (false, eval e X.env) :: starEach es X.env := by rfl) (hpl : (backTo pos (starEach es X.env)).any (·.1) = false := by rfl) :
    PE X (.Call (.Attribute (.Name "Exception" p1) "__init__" p2) (e :: es) [] pos) (tExI X.K ta) := by
  refine ⟨fun pins s σ H Q I h => ?_⟩
  refine PySem.W.methodCall_KW (ld_blt I hg hm PyProof.Rows.Boot.«Exception» ?_ (by decide) (by decide)) hc
  obtain ⟨m, fr⟩ := I.fr
  refine PySem.W.method_type fr I.ok.mod.kin typ_EX (by decide +kernel) vV (by decide +kernel) ?_
  show wpAny _ _ (callWith pos (Value.builtin "Exception.__init__") [] (backTo pos (starEach (e :: es) X.env)) []) _ _ _
  refine PyProof.Rows.callWith_method1 (thn (ha.run pos pins _ σ H _ (I.tok _) h) fun us s1 ⟨vs, H1, I1, r1, a, C, ws, ev, hl, T, ea, q⟩ => ?_) he hpl
  subst ev
  cases r1 with
  | @cons _ u0 _ ur ra rw' =>
    obtain rfl : u0 = Value.ref a := ra
    have hlen : ur.length ≤ sizeLine := by
      rw [← Paired.length rw', sizeLine_eq]
      omega
    exact obinit_ok T I1 ea hlen fun s' J => ⟨.non, H1, J, rfl, q⟩
theorem ps_obt (ho : PE X o to) (he : PE X e te) (hs : swapsWith e (some (.Attribute o f p')) pos.line X.env = pure false := by rfl) : PS X (.Assign [.Attribute o f p'] e pos) (tObt X.K f to te) := by
  refine ⟨fun pins s σ H D I h => ?_⟩
  refine plainObj_wpAny_Assign_Attribute (thn (he.run pins s σ H _ I h) fun v s1 ⟨y, H1, I1, r1, q1⟩ => thn (ho.run pins s1 σ H1 _ I1 q1) fun u s2 ⟨x, H2, I2, r2, a, C, ex, T, hno, ea, q⟩ => ?_) hs
  subst ex
  obtain rfl : u = Value.ref a := r2
  exact obt_new T I2 ea hno r1 fun dx s' n ne J => ⟨σ, _, J, q dx n ne⟩
theorem pmk_obx {CX : CXT} {x : Str} {C fI : Addr} {k : Nat} {fd : FuncData} {ps : List Str} {sp : Sp} {ds : List Value} {dvs : List V} (T : ObxC X.K C) (iC : PySem.W.findIn X.K (.ref C) "__init__" = some (some (.ref fI))) (tI : PySem.W.typeIn X.K (.ref fI) = some (.type "function"))
    (F1 : FnOk X.prog X.w X.K X.mg X.base CX k fI fd ps sp) (hr : Room (k + 1) X.A) (hb : L2.Binds X.K fd ps ds) (hd : Vals dvs ds) (hx : Passes CX X (fun _ _ _ => False)) (hg : Gl X x) (hm : X.mg x = some (.ref C)) (ha : PA X (e :: es) ta)
    (hdb : (x == ("__debug__" : Str)) = false := by decide) (he : starEach (e :: es) X.env = (false, eval e X.env) :: starEach es X.env := by rfl) (hpl : (backTo pos (starEach es X.env)).any (·.1) = false := by rfl) :
    PMk X (.Call (.Name x p) (e :: es) [] pos) (tMkO C sp dvs ta) := by
  intro pins s σ H Q I h
  obtain ⟨nm, q, N, bs, bm, sn, sub, ab, col, dd, k0, k1, k2, k3, k5, hC, hbm⟩ := T.cls
  refine wpAny_Call_Name_kw (ld_glob I hg hm ?_ hdb)
  refine PySem.W.callWith_K (h₀ := X.base) I.ok.mod.kin T.kC (thn (ha.run pos pins s σ H _ I h) fun us s1 ⟨vs, H1, I1, r1, hz, q1⟩ => ⟨I1.kIn, ?_⟩) he hpl
  show wpAny _ _ (call (.ref C) us) _ _ _
  obtain ⟨hp, g, dr, tk, os⟩ := s1
  have hsz : hp.objs.size ≤ hp.objs.size + 1 := Nat.le_succ _
  have hn : H1 (hp.objs.size + 1) = none := I1.hok.fresh hsz
  have hq := q1 (hp.objs.size + 1) hn
  have kk : ∀ b o, hp.get? b = some o → ((hp.push (PySem.W.kdv_tup us)).push (PySem.HandSPX.excO C hp.objs.size)).get? b = some o := fun b o e => Heap.get?_push_of_some _ (Heap.get?_push_of_some _ e)
  have hget : ((hp.push (PySem.W.kdv_tup us)).push (PySem.HandSPX.excO C hp.objs.size)).get? (hp.objs.size + 1) = some (PySem.HandSPX.excO C hp.objs.size) := by heap_get
  have I2 : Inv X pins σ (upd H1 (hp.objs.size + 1) (exo (hp.objs.size + 1) C none)) ⟨(hp.push (PySem.W.kdv_tup us)).push (PySem.HandSPX.excO C hp.objs.size), g, dr, tk, os⟩ :=
    I1.laid (t' := tk) (a := hp.objs.size + 1) (o := exo (hp.objs.size + 1) C none) (h' := (hp.push (PySem.W.kdv_tup us)).push (PySem.HandSPX.excO C hp.objs.size)) kk hsz (exo_ok hget)
  have r2 : Vals (V.ref (hp.objs.size + 1) :: (vs ++ dvs)) (Value.ref (hp.objs.size + 1) :: (us ++ ds)) := .cons rfl (r1.append hd)
  have hl : (Value.ref (hp.objs.size + 1) :: us ++ ds).length = ps.length := by
    have e := r2.length
    rw [F1.len _ _ _ _ hq] at e
    exact e.symm
  have hus : us.length ≤ sizeLine := by
    rw [← Paired.length r1, sizeLine_eq]
    omega
  refine wpAny_call (PySem.HandSPX.call_own F.excBase_Exception (fun Y => PySem.W.excTail_contains Y bm hbm) (I1.kIn _ _ hC) (PySem.W.looks_findIn I1.kIn iC) (fun self => PySem.W.bind_fn I1.kIn self tI) hus
    (codeAny_mono (F1.run _ X.stack _ _ ⟨Value.ref (hp.objs.size + 1) :: us, []⟩ (Value.ref (hp.objs.size + 1) :: (us ++ ds)) _ _ (fun _ _ _ => False) (hr.make C us []) (I2.env0.make C us []) (hb _ (Value.ref (hp.objs.size + 1) :: us) I2.kIn hl) r2 hq) fun r s' hq' => ?_))
  cases r with
  | error er => exact hx pins σ _ _ er s' I2 hq'
  | ok fl =>
    cases fl with
    | ret u =>
      obtain ⟨v, H2, os2, bare2, un2, hok2, rv, ev, d, fs, ea, ed, hd1, q2⟩ := hq'
      subst ev
      obtain ⟨h2, g2, d2, t2, os'⟩ := s'
      exact ⟨rv, mk_end (raises_own T.exC T.tyC) I1 hsz kk un2 hok2 os2 bare2 ea ed hd1 q2⟩
    | next => exact False.elim hq'
    | brk => exact False.elim hq'
    | cont => exact False.elim hq'
end
end Rp

namespace Rp
open PySem PySem.Spec PyProof.Rows L2
/-! ### the law's call, the guards known -/
section
variable {P : Program} {w : World} {K : PySem.W.Frag} {mg mb : Str → Option Value} {CX : CXT} {k : Nat} {fa a : Addr} {fd : FuncData} {x : Str} {sp : Sp} {s : Shared} {vs : List Value} {ns : List Int}
/-- from one abstract heap that holds the script at most -/
theorem law_coreG {H : Hp} (inK : K.In s.heap) (gl : s.heap.Ns mainGlobals mg) (bn : s.heap.Ns builtinsNs mb) (boot : ∀ y : Str, y ≠ "__name__" → mb y = bootBuiltins y) (lim : s.heap.NoLimit) (gens : s.gens = #[])
    (at_ : s.heap.get? a = some { cls := .type "list", data := .seq vs.toArray }) (room : Room k callerA)
    (F : ∀ base : Heap, K.In base → base.Ns mainGlobals mg → FnG P w K mg base CX k fa fd [x] sp) (bind : ∀ (s : Shared) (u : Value), BindsTo s fd ⟨[u], []⟩ [(x, u)])
    (one : ∀ b, H b = none ∨ ∃ o xs, H b = some (.frz o (.lst xs))) (ok : HOk P w H s.heap) (alone : ∀ b, H b ≠ none → b = a) (apart : H a ≠ none → K.lookup a = none)
    (keeps : sp [.ref a] H (fun v _ => v = .bl true) fun _ _ _ => False) (noX : ∀ e s', CX [] H s (fun _ _ _ => False) e s' → False) :
    codeAny (model P w) callerA (.call (.ref fa) ⟨[.ref a], []⟩) (fun r s' => r = .ok (.ret (.bool true)) ∧ OldK s.heap s'.heap ∧ s'.os = s.os ∧ AllBare s'.gens) s := by
  have noDict : ∀ {b : Addr} {o : Obj} {es : Array DictEntry} {ep : Nat}, s.heap.get? b = some o → o.data = .dict es ep → H b = none := fun {b o es ep} e d => by
    by_cases q : H b = none
    · exact q
    · have z := alone b q
      subst z
      rw [at_] at e
      cases e
      cases d
  have ns' : ∀ {b : Addr} {m : Str → Option Value}, s.heap.Ns b m → (hidT s.heap H).Ns b m := fun {b m} ⟨o, es, ep, e, d, r⟩ => ⟨o, es, ep, hidT_get e (noDict e d), d, r⟩
  have inB : K.In (hidT s.heap H) := fun b o e => hidT_get (inK b o e) (by
    by_cases q : H b = none
    · exact q
    · have z := alone b q
      subst z
      rw [apart q] at e
      cases e)
  obtain ⟨mc, lim1, lim2⟩ := lim
  have md : Mod K mg (hidT s.heap H) := ⟨inB, ns' gl, ⟨mb, ns' bn, boot⟩, ⟨mc, ns' lim1, lim2⟩⟩
  have en : Env0 P w K mg (hidT s.heap H) callerA [] s H := ⟨rfl, md, fun b o e => of_hidT e, Nat.le_of_eq (hidT_size _ _), trivial, fun b z => absurd z List.not_mem_nil, ok, .of_eq gens⟩
  refine codeAny_mono ((F _ inB (ns' gl)).go callerA [] s H ⟨[.ref a], []⟩ [.ref a] [.ref a] _ _ rfl room en (bind s (.ref a)) (.cons rfl .nil) keeps) fun r s' hr => ?_
  rcases r with e | fl
  · exact (noX e s' hr).elim
  · cases fl with
    | ret u =>
      obtain ⟨v, H', os, bare, un, ok', rv, rfl⟩ := hr
      cases rv
      refine ⟨rfl, OldK.of_keep fun b o e => ?_, os, bare⟩
      rcases one b with q | ⟨ob, xs, q⟩
      · exact un.keep b o e q (fun z => by cases z) (fun z => by cases z)
      · have e1 := (ok b _ q).1
        have e2 := (ok' b _ (un.frzs b ob _ q)).1
        rw [e] at e1
        cases e1
        exact e2
    | next => exact hr.elim
    | brk => exact hr.elim
    | cont => exact hr.elim
theorem law_callG (inK : K.In s.heap) (gl : s.heap.Ns mainGlobals mg) (bn : s.heap.Ns builtinsNs mb) (boot : ∀ y : Str, y ≠ "__name__" → mb y = bootBuiltins y) (lim : s.heap.NoLimit) (gens : s.gens = #[])
    (at_ : s.heap.get? a = some { cls := .type "list", data := .seq vs.toArray }) (hin : IntsAre vs ns) (few : ns.length ≤ sizeLine) (room : Room k callerA)
    (F : ∀ base : Heap, K.In base → base.Ns mainGlobals mg → FnG P w K mg base CX k fa fd [x] sp) (bind : ∀ (s : Shared) (u : Value), BindsTo s fd ⟨[u], []⟩ [(x, u)])
    (keeps : ∀ H : Hp, Only H → SqL K H a (ns.map V.int) → sp [.ref a] H (fun v _ => v = .bl true) fun _ _ _ => False) (noX : ∀ H e s', CX [] H s (fun _ _ _ => False) e s' → False) :
    codeAny (model P w) callerA (.call (.ref fa) ⟨[.ref a], []⟩) (fun r s' => r = .ok (.ret (.bool true)) ∧ OldK s.heap s'.heap ∧ s'.os = s.os ∧ AllBare s'.gens) s := by
  have rel := vals_ints hin
  cases lk : K.lookup a with
  | some o =>
    have e := inK a o lk
    rw [at_] at e
    cases e
    refine law_coreG (H := fun _ => none) inK gl bn boot lim gens at_ room F bind (fun _ => .inl rfl) (fun b u z => by cases z) (fun b z => (z rfl).elim) (fun z => (z rfl).elim) (keeps _ (fun _ => .inl rfl) ?_) (noX _)
    exact .inr ⟨_, vs.toArray, _, lk, rfl, rfl, rfl, by rw [List.size_toArray, hin.length]; exact few, by simpa using rel⟩
  | none =>
    have here : (fun b => if b = a then some (HO.frz { cls := .type "list", data := .seq vs.toArray } (.lst (ns.map V.int))) else none) a = some (HO.frz { cls := .type "list", data := .seq vs.toArray } (.lst (ns.map V.int))) := if_pos rfl
    have only : ∀ b, (fun b => if b = a then some (HO.frz { cls := .type "list", data := .seq vs.toArray } (.lst (ns.map V.int))) else none) b = none ∨ ∃ o xs, (fun b => if b = a then some (HO.frz { cls := .type "list", data := .seq vs.toArray } (.lst (ns.map V.int))) else none) b = some (.frz o (.lst xs)) := fun b => by
      by_cases q : b = a
      · exact .inr ⟨_, _, if_pos q⟩
      · exact .inl (if_neg q)
    refine law_coreG inK gl bn boot lim gens at_ room F bind only (fun b u z => ?_) (fun b z => ?_) (fun _ => lk) (keeps _ only (.inl (.inr ⟨_, here⟩))) (noX _)
    · by_cases q : b = a
      · subst q
        have z' := here.symm.trans z
        cases z'
        exact ⟨at_, by rw [List.length_map]; exact few, vs, 0, rel, at_⟩
      · rw [if_neg q] at z
        cases z
    · by_cases q : b = a
      · exact q
      · exact (z (if_neg q)).elim
end
/-- the end of a row: the written part's facts, the law's def, its promise -/
theorem walkG {l : PySem.W.OpenLaw} {n k : Nat} {q : Program} {loose : List Str} {XP : (Str → Option Value) → Heap → Prop} {YP : World → Heap → Prop} {d : DefRec} {K : Params → PySem.W.Frag} {CX : World → CXT} {sp : PySem.W.Frag → Sp} {x : Str}
    (hn : l.most = some n) (hn2 : n ≤ sizeLine) (hdf : d.params.defaults = []) (room : Room k callerA) (hY : ∀ (w : World) (h : Heap), YP w h → (K w.params).In h)
    (F : ∀ (w : World) (mg : Str → Option Value) (fa : Addr) (h : Heap), (K w.params).In h → h.Ns mainGlobals mg → mg d.name = some (.ref fa) →
      ∃ fd : FuncData, (∀ (s : Shared) (u : Value), BindsTo s fd ⟨[u], []⟩ [(x, u)]) ∧ ∀ base : Heap, (K w.params).In base → base.Ns mainGlobals mg → FnG l.prog w (K w.params) mg base (CX w) k fa fd [x] (sp (K w.params)))
    (keeps : ∀ (K : PySem.W.Frag) (H : Hp) (a : Addr) (ns : List Int), ns.length ≤ n → Only H → SqL K H a (ns.map V.int) → sp K [.ref a] H (fun v _ => v = .bl true) fun _ _ _ => False)
    (noX : ∀ (w : World) (H : Hp) (s : Shared) (e : Value) (s' : Shared), CX w [] H s (fun _ _ _ => False) e s' → False) : PySem.W.WalkO q loose XP YP l.row.toRowW d [] (fun f vs => PySem.call f vs) := by
  refine Att.attach_call hn hdf fun w s0 s1 mg mb fa o pm cd doc a vs ns G Y _ _ _ hmg hobj hints hlen hg => ?_
  obtain ⟨fd, hb, hF⟩ := F w mg fa _ (hY w _ Y) G.T.g hmg
  exact law_callG (hY w _ Y) G.T.g G.T.b G.T.builtins G.T.nolimit hg hobj hints (Nat.le_trans hlen hn2) room hF hb (fun H only sq => keeps (K w.params) H a ns hlen only sq) fun H e s' => noX w H s1 e s'
/-! ### small data may be shown -/
structure Sm (n : Nat) (d : PyData) : Prop where
  ls : d.leavesShort 40 = true
  sh : d.showable = true
  nd : d.hasDict = false
  dp : d.depth ≤ n
  wt : d.weight ≤ 4 ^ n * 64
theorem Sm.shw {n : Nat} {d : PyData} (h : Sm n d) (hn : n ≤ 6) : Shw d := by
  refine ⟨h.sh, h.nd, by have := h.dp; omega, ?_⟩
  have q := PyData.shown_le 40 (by decide) d h.ls
  have w := h.wt
  have m : (4 : Nat) ^ n ≤ 4 ^ 6 := Nat.pow_le_pow_right (by decide) hn
  have e : sizeLine = 16777216 := rfl
  rw [e]
  have : (4 : Nat) ^ 6 = 4096 := by decide
  omega
end Rp

namespace Rp
open PySem PySem.Spec PyProof.Rows L2
/-- small plain data: how deep at most, how heavy at most -/
structure Sml (m n : Nat) (d : PyData) : Prop where
  cl : d.canLay0 = true
  dp : d.depth ≤ m
  wt : d.weight ≤ n
  ls : d.leavesShort 40 = true
  sh : d.showable = true
theorem Sml.shw {m n : Nat} {d : PyData} (h : Sml m n d) (hm : m ≤ 16) (hn : n ≤ 300000) : Shw d := by
  refine ⟨h.sh, PyData.hasDict_of_canLay d h.cl, Nat.le_trans h.dp hm, ?_⟩
  have q := PyData.shown_le 40 (by decide) d h.ls
  have w := h.wt
  have e : sizeLine = 16777216 := rfl
  rw [e]
  omega
theorem Sml.shaped {m n : Nat} {d : PyData} (h : Sml m n d) (hm : m ≤ 64) : SeqAt.shaped d = true := by
  unfold SeqAt.shaped
  rw [h.cl, decide_eq_true (Nat.le_trans h.dp hm)]
  rfl
theorem Sml.refl {m n : Nat} {d : PyData} (h : Sml m n d) : PyData.eqv d d = true := SeqAt.eqv_refl d h.cl
theorem Sml.mono {m m' n n' : Nat} {d : PyData} (h : Sml m n d) (hm : m ≤ m') (hn : n ≤ n') : Sml m' n' d := ⟨h.cl, Nat.le_trans h.dp hm, Nat.le_trans h.wt hn, h.ls, h.sh⟩
theorem log_lt {n k : Nat} (hk : 0 < k) (h : n < 2 ^ k) : n.log2 < k := by
  by_cases z : n = 0
  · rw [z]
    exact hk
  · exact (Nat.log2_lt z).mpr h
theorem Sml.int {i : Int} (h : i.natAbs < 2 ^ 30) : Sml 0 40 (.int i) := by
  have l := log_lt (by decide) h
  refine ⟨by simp only [PyData.canLay0], by simp only [PyData.depth]; exact Nat.le_refl _, ?_, ?_, by simpa only [PyData.showable] using decide_eq_true (Nat.lt_trans l (by decide))⟩
  · simp only [PyData.weight]
    split
    · exact Nat.zero_le _
    · omega
  · simp only [PyData.leavesShort, PyData.shown, decide_eq_true_eq, PySem.ofString_length]
    have q := int_text_length_le (a := i) (k := 30) (by decide) l
    omega
theorem Sml.bool {b : Bool} : Sml 0 0 (.bool b) := ⟨rfl, Nat.le_refl _, Nat.le_refl _, rfl, rfl⟩
theorem Sml.none : Sml 0 0 .none := ⟨rfl, Nat.le_refl _, Nat.le_refl _, rfl, rfl⟩
theorem Sml.str {x : Str} {n : Nat} (h : PyData.strOk x = true) (hn : x.cps.size ≤ n) : Sml 0 n (.str x) := by
  have c : (PyData.str x).canLay0 = true := by simpa only [PyData.canLay0] using h
  exact ⟨c, by simp only [PyData.depth]; exact Nat.le_refl _, by simpa only [PyData.weight] using hn, PyData.leavesShort_of_canLay0 40 _ c (by simp only [PyData.intsShort]), by simp only [PyData.showable]⟩
theorem sml_all {m n : Nat} : ∀ {xs : List PyData}, (∀ x ∈ xs, Sml m n x) → PyData.canLayAll0 xs = true ∧ PyData.depthAll xs ≤ m ∧ PyData.weightAll xs ≤ xs.length * (n + 1) ∧ PyData.leavesShortAll 40 xs = true ∧ PyData.showableAll xs = true
  | [], _ => ⟨rfl, Nat.zero_le _, by simp [PyData.weightAll], rfl, rfl⟩
  | x :: xs, h => by
    obtain ⟨a, b, c, d, e⟩ := sml_all (xs := xs) fun y hy => h y (List.mem_cons_of_mem _ hy)
    obtain ⟨a', b', c', d', e'⟩ := h x List.mem_cons_self
    refine ⟨by simp only [PyData.canLayAll0, a, a', Bool.and_self], by simp only [PyData.depthAll]; omega, ?_, by simp only [PyData.leavesShortAll, d, d', Bool.and_self], by simp only [PyData.showableAll, e, e', Bool.and_self]⟩
    simp only [PyData.weightAll, List.length_cons]
    have : (xs.length + 1) * (n + 1) = xs.length * (n + 1) + (n + 1) := Nat.succ_mul _ _
    omega
theorem Sml.tup {m n k : Nat} {xs : List PyData} (h : ∀ x ∈ xs, Sml m n x) (hk : xs.length ≤ k) : Sml (m + 1) (k * (n + 1)) (.tuple xs) := by
  obtain ⟨a, b, c, d, e⟩ := sml_all h
  refine ⟨by simpa only [PyData.canLay0] using a, by simp only [PyData.depth]; omega, ?_, by simpa only [PyData.leavesShort] using d, by simpa only [PyData.showable] using e⟩
  simp only [PyData.weight]
  exact Nat.le_trans c (Nat.mul_le_mul_right _ hk)
theorem Sml.lst {m n k : Nat} {xs : List PyData} (h : ∀ x ∈ xs, Sml m n x) (hk : xs.length ≤ k) : Sml (m + 1) (k * (n + 1)) (.list xs) := by
  obtain ⟨a, b, c, d, e⟩ := sml_all h
  refine ⟨by simpa only [PyData.canLay0] using a, by simp only [PyData.depth]; omega, ?_, by simpa only [PyData.leavesShort] using d, by simpa only [PyData.showable] using e⟩
  simp only [PyData.weight]
  exact Nat.le_trans c (Nat.mul_le_mul_right _ hk)
/-! ### a talk's numbers as data -/
def dInts (ns : List Int) : PyData := .tuple (ns.map .int)
def dRows (bs : List (List Int)) : PyData := .tuple (bs.map dInts)
def dTalk (ls : List Int) (bs : List (List Int)) : PyData := .tuple [dInts ls, dRows bs]
/-- small numbers -/
def Low (ns : List Int) : Prop := ns.length ≤ 60 ∧ ∀ n ∈ ns, n.natAbs < 2 ^ 30
theorem Low.sml {ns : List Int} (h : Low ns) : Sml 1 2460 (dInts ns) :=
  (Sml.tup (k := 60) (fun x hx => by obtain ⟨n, hn, rfl⟩ := List.mem_map.mp hx; exact Sml.int (h.2 n hn)) (by rw [List.length_map]; exact h.1)).mono (Nat.le_refl _) (by decide)
def LowRows (bs : List (List Int)) : Prop := bs.length ≤ 60 ∧ ∀ row ∈ bs, Low row
theorem LowRows.sml {bs : List (List Int)} (h : LowRows bs) : Sml 2 147660 (dRows bs) :=
  (Sml.tup (k := 60) (fun x hx => by obtain ⟨n, hn, rfl⟩ := List.mem_map.mp hx; exact (h.2 n hn).sml) (by rw [List.length_map]; exact h.1)).mono (Nat.le_refl _) (by decide)
theorem talk_sml {ls : List Int} {bs : List (List Int)} (h1 : Low ls) (h2 : LowRows bs) : Sml 3 295322 (dTalk ls bs) :=
  (Sml.tup (k := 2) (m := 2) (n := 147660) (fun x hx => by
    rcases List.mem_cons.mp hx with rfl | hx
    · exact h1.sml.mono (by decide) (by decide)
    · rw [List.mem_singleton.mp hx]; exact h2.sml) (Nat.le_refl _)).mono (Nat.le_refl _) (by decide)
end Rp

namespace Rp
open PySem PySem.Spec PyProof.Rows L2
/-! ### data at an address -/
theorem dp_ints_all {K : PySem.W.Frag} {H : Hp} : ∀ ns : List Int, DpAll K H (ns.map V.int) (ns.map PyData.int)
  | [] => .nil
  | n :: ns => .cons (.int n) (dp_ints_all ns)
theorem dp_ints {K : PySem.W.Frag} {H : Hp} {a : Addr} {ns : List Int} (h : H a = some (.tup (ns.map V.int))) : Dp K H (.ref a) (dInts ns) := .tup (SqT.of h) (dp_ints_all ns)
theorem dp_rows_all {K : PySem.W.Frag} {H : Hp} : ∀ {qs : List Addr} {bs : List (List Int)}, RowsAt H qs bs → DpAll K H (qs.map V.ref) (bs.map dInts)
  | _, _, .nil => .nil
  | _, _, .cons h t => .cons (dp_ints h) (dp_rows_all t)
theorem dp_rows {K : PySem.W.Frag} {H : Hp} {b : Addr} {qs : List Addr} {bs : List (List Int)} (h : H b = some (.tup (qs.map V.ref))) (r : RowsAt H qs bs) : Dp K H (.ref b) (dRows bs) := .tup (SqT.of h) (dp_rows_all r)
theorem TalkRow.dp {K : PySem.W.Frag} {H : Hp} {p : Addr} {ls : List Int} {bs : List (List Int)} (h : TalkRow H p ls bs) : Dp K H (.ref p) (dTalk ls bs) :=
  let ⟨_, _, _, h1, h2, h3, h4⟩ := h
  .tup (SqT.of h1) (.cons (dp_ints h2) (.cons (dp_rows h3 h4) .nil))
/-! ### parts -/
def part {α : Type} (i j : Nat) (l : List α) : List α := (l.drop i).take (j + 1 - i)
theorem RowsAt.drop {H : Hp} : ∀ (n : Nat) {qs : List Addr} {bs : List (List Int)}, RowsAt H qs bs → RowsAt H (qs.drop n) (bs.drop n)
  | 0, _, _, h => h
  | _ + 1, _, _, .nil => .nil
  | n + 1, _, _, .cons _ t => RowsAt.drop n t
theorem RowsAt.take {H : Hp} : ∀ (n : Nat) {qs : List Addr} {bs : List (List Int)}, RowsAt H qs bs → RowsAt H (qs.take n) (bs.take n)
  | 0, _, _, _ => .nil
  | _ + 1, _, _, .nil => .nil
  | n + 1, _, _, .cons h t => .cons h (RowsAt.take n t)
theorem RowsAt.part {H : Hp} {i j : Nat} {qs : List Addr} {bs : List (List Int)} (h : RowsAt H qs bs) : RowsAt H (Rp.part i j qs) (Rp.part i j bs) := (h.drop i).take _
theorem RowsAt.append {H : Hp} : ∀ {qs qs' : List Addr} {bs bs' : List (List Int)}, RowsAt H qs bs → RowsAt H qs' bs' → RowsAt H (qs ++ qs') (bs ++ bs')
  | _, _, _, _, .nil, h => h
  | _, _, _, _, .cons a t, h => .cons a (RowsAt.append t h)
theorem cut_map {α : Type} (f : α → V) (l : List α) (i j : Nat) (hj : j < l.length) (hi : i ≤ j) : cutV (l.map f) (some (i : Int)) (some ((j : Int) + 1)) = (part i j l).map f := by
  have e : ((j : Int) + 1) = ((j + 1 : Nat) : Int) := by omega
  unfold cutV part
  rw [e, HT.sIx_nat, HT.sIx_nat, List.length_map, ← List.map_drop, ← List.map_take, show min i l.length = i by omega, show min (j + 1) l.length = j + 1 by omega]
theorem Same.upd {H : Hp} {p : Addr} {o : HO} (h : H p = none) : Same H (upd H p o) := fun b u e => by rw [upd_ne (ne_of_none e h)]; exact e
/-- a slice of a tuple that is tracked: some tuple of these items -/
theorem sl_by {K : PySem.W.Frag} {H : Hp} {a : Addr} {xs : List V} {lo hi : Option Int} {Q : VK} (h : H a = some (.tup xs)) (k : ∀ p H', Same H H' → H' p = some (.tup (cutV xs lo hi)) → Q (.ref p) H') : rSlA K (.ref a) lo hi H Q := by
  refine ⟨a, xs, rfl, SqT.of h, fun w => k a H (Same.refl H) ?_, fun _ p hp => k p _ (Same.upd hp) upd_same⟩
  have e : cutV xs lo hi = xs := by
    unfold cutV
    rw [w.1, w.2, Nat.sub_zero, List.drop_zero, List.take_length]
  rw [e]
  exact h
/-- both, one behind the other -/
theorem cat_by {K : PySem.W.Frag} {H : Hp} {a b : Addr} {xs ys : List V} {Q : VK} (h : H a = some (.tup xs)) (h' : H b = some (.tup ys)) (hz : xs.length + ys.length ≤ sizeLine) (k : ∀ p H', Same H H' → H' p = some (.tup (xs ++ ys)) → Q (.ref p) H') : rCatA K (.ref a) (.ref b) H Q := by
  refine ⟨a, b, xs, ys, rfl, rfl, SqT.of h, SqT.of h', hz, fun e => k b H (Same.refl H) ?_, fun _ e => k a H (Same.refl H) ?_, fun _ _ p hp => k p _ (Same.upd hp) upd_same⟩
  · rw [e]; exact h'
  · rw [e, List.append_nil]; exact h
theorem TalkRow.same {H H' : Hp} {p : Addr} {ls : List Int} {bs : List (List Int)} (h : TalkRow H p ls bs) (s : Same H H') : TalkRow H' p ls bs := h.imp fun _ _ e => s _ _ e

/-! ### the class -/
/-- a Talk of these numbers at x -/
def TalkAt (C : Addr) (H : Hp) (x : Addr) (ls : List Int) (bs : List (List Int)) : Prop :=
  ∃ dx a b qs, H x = some (.ins C dx [("lengths", .ref a), ("sizes", .ref b)]) ∧ H a = some (.tup (ls.map V.int)) ∧ H b = some (.tup (qs.map V.ref)) ∧ RowsAt H qs bs
theorem TalkAt.same {C : Addr} {H H' : Hp} {x : Addr} {ls : List Int} {bs : List (List Int)} (h : TalkAt C H x ls bs) (s : Same H H') : TalkAt C H' x ls bs :=
  let ⟨dx, a, b, qs, h1, h2, h3, h4⟩ := h
  ⟨dx, a, b, qs, s _ _ h1, s _ _ h2, s _ _ h3, h4.imp fun _ _ e => s _ _ e⟩
structure TkB (K : PySem.W.Frag) (C fI : Addr) : Prop where
  cl : Cls K C
  make : Mk K C fI
  nl : NoAttr K C "lengths"
  ns : NoAttr K C "sizes"
  ca : PySem.W.findIn K (.ref C) "__class__" = some (some (.builtin "object.__class__"))
  cn : PySem.W.specialIn K (.builtin "object.__class__") "__get__" = some (some (.builtin "getset_descriptor.__get__"))
  ct : PySem.W.takesIn K (.builtin "object.__class__") = some true
  cm : PySem.W.mroIn K C (.type "object") = some true
theorem TkB.ty {K : PySem.W.Frag} {C fI : Addr} (T : TkB K C fI) {H : Hp} {x dx : Addr} {fs : List (Str × V)} (h : H x = some (.ins C dx fs)) : TyX K H (.ref x) (.ref C) := .base (.ins h T.cl T.ca T.cn T.ct T.cm)
theorem kit_self {K : PySem.W.Frag} {C : Addr} : PySem.W.kitOne K (.ref C) (.ref C) = some true := by
  unfold PySem.W.kitOne
  rw [if_pos (beq_self_eq_true _)]
abbrev sInit : Stmt := inClass (topS 17) 0
abbrev sEq : Stmt := inClass (topS 17) 2
abbrev sMany : Stmt := inClass (topS 17) 5
theorem scInit : FnScope ["self", "lengths", "sizes"] ["self", "lengths", "sizes"] (defScope sInit) := ⟨rfl, rfl, rfl, by decide +kernel, rfl, by decide +kernel, by decide +kernel⟩
theorem scEq : FnScope ["self", "other"] ["self", "other"] (defScope sEq) := ⟨rfl, rfl, rfl, by decide +kernel, rfl, by decide +kernel, by decide +kernel⟩
theorem scMany : FnScope ["self"] ["self"] (defScope sMany) := ⟨rfl, rfl, rfl, by decide +kernel, rfl, by decide +kernel, by decide +kernel⟩
/-- a new Talk's fields -/
def spInit (C : Addr) : Sp := fun vs H Q _ => ∃ x dx v1 v2, vs = [.ref x, v1, v2] ∧ H x = some (.ins C dx []) ∧
  ∀ H', (∀ b o, b ≠ x → H b = some o → H' b = some o) → H' x = some (.ins C dx [("lengths", v1), ("sizes", v2)]) → Q .non H'
def spMany (C : Addr) : Sp := fun vs H Q _ => ∃ x ls row bs, vs = [.ref x] ∧ TalkAt C H x ls (row :: bs) ∧ Q (.int (row.length : Nat)) H
/-- what == is asked of -/
def EqT (C : Addr) : Addr → Addr → Hp → Prop := fun a b H => ∃ ls bs, TalkAt C H a ls bs ∧ TalkAt C H b ls bs ∧ Low ls ∧ LowRows bs
/-- a new Talk, and all that stood -/
theorem made_talk {C x dx : Addr} {H : Hp} {v1 v2 : V} {R : VK} {E : XK} (nx : H x = none) (ndx : H dx = none) (ne : dx ≠ x) (k : ∀ H', Same H H' → (∃ dx, H' x = some (.ins C dx [("lengths", v1), ("sizes", v2)])) → R .non H') :
    spInit C [.ref x, v1, v2] (upd (upd H dx (.own x)) x (.ins C dx [])) R E :=
  ⟨x, dx, v1, v2, rfl, upd_same, fun H' kp hx => k H' (fun b o e => kp b o (ne_of_none e nx) (by rw [upd_ne (ne_of_none e nx), upd_ne (ne_of_none e ndx)]; exact e)) ⟨dx, hx⟩⟩
section
variable {P : Program} {w : World} {K : PySem.W.Frag} {mg : Str → Option Value} {base : Heap} {C fI fE fM fC fJ : Addr} {fdI : FuncData}
theorem ok_init {fd : FuncData} (F : Fun K "__init__" "Talk.__init__" sInit fI fd) (T : TkB K C fI) : FnOk P w K mg base CX0 1 fI fd ["self", "lengths", "sizes"] (spInit C) := by
  refine F.ok scInit (fun vs H Q E h => ?_) (fun cdv A outer s H vs Q E hr h => ?_)
  · obtain ⟨_, _, _, _, rfl, _⟩ := h
    rfl
  · have nd := scInit.nd
    refine ⟨_, pss_cons (ps_fld (pv 0) (pv 1) rfl)
    (pss_one (ps_fld (pv 0) (pv 2) rfl)), ?_⟩
    obtain ⟨x, dx, v1, v2, rfl, hx, k⟩ := h
    refine ⟨_, rfl, _, rfl, x, C, dx, _, rfl, hx, T.cl, T.nl, (by show 0 < 1000; decide), ?_⟩
    refine ⟨_, rfl, _, rfl, x, C, dx, _, rfl, upd_same, T.cl, T.ns, (by show 1 < 1000; decide), ?_⟩
    refine k _ (fun b o n e => ?_) ?_
    · rw [upd_ne n, upd_ne n]; exact e
    · rw [upd_same]; rfl
theorem ok_many {fd : FuncData} (F : Fun K "many_rates" "Talk.many_rates" sMany fM fd) (T : TkB K C fI) (B : Bi mg) : FnOk P w K mg base CX0 1 fM fd ["self"] (spMany C) := by
  refine F.ok scMany (fun vs H Q E h => ?_) (fun cdv A outer s H vs Q E hr h => ?_)
  · obtain ⟨_, _, _, _, rfl, _⟩ := h
    rfl
  · refine ⟨_, pss_one (ps_ret (pe_callB call_len_seq (by rfl) B.len PySem.boot_len (pa_cons (pe_ix ix_tup (pe_fld (pv 0) rfl) (pe_int) (fun _ _ => rfl)) pa_nil))), ?_⟩
    obtain ⟨x, ls, row, bs, rfl, ⟨dx, a, b, qs, h1, h2, h3, h4⟩, q⟩ := h
    cases h4 with
    | @cons q0 _ qs' _ hq ht =>
      refine ⟨_, rfl, x, C, dx, _, _, rfl, h1, T.cl, T.ns, rfl, b, _, 0, _, rfl, rfl, SqT.of h3, at_of (j := 0) rfl rfl, ?_⟩
      refine ⟨q0, _, rfl, .inr (SqT.of hq), ?_⟩
      rw [List.length_map]
      exact q
theorem ok_eq {fd : FuncData} (F : Fun K "__eq__" "Talk.__eq__" sEq fE fd) (T : TkB K C fI) (mC : mg "Talk" = some (.ref C)) (mI : mg "isinstance" = none) : FnOk P w K mg base CX0 1 fE fd ["self", "other"] (spEq (EqT C)) := by
  refine F.ok scEq (fun vs H Q E h => ?_) (fun cdv A outer s H vs Q E hr h => ?_)
  · obtain ⟨_, _, rfl, _⟩ := h
    rfl
  · refine ⟨_, pss_one (ps_ret (pe_and (pe_callB call_isi (by rfl) mI (by decide +kernel) (pa_cons (pv 1) (pa_cons (pe_glob (v := .ref C) (by rfl) mC rfl) pa_nil))) (pe_and (pe_cmpR (op_eqD hr.units) (pe_fld (pv 0) rfl) (pe_fld (pv 1) rfl) (nomark _)) (pe_one (pe_cmpR (op_eqD hr.units) (pe_fld (pv 0) rfl) (pe_fld (pv 1) rfl) (nomark _)))))), ?_⟩
    obtain ⟨x, y, rfl, ⟨ls, bs, ⟨dx, a, b, qs, h1, h2, h3, h4⟩, ⟨dy, a', b', qs', g1, g2, g3, g4⟩, lo, lor⟩, q⟩ := h
    refine ⟨_, rfl, _, _, _, _, true, rfl, .own C, T.ty g1, kit_self, true, rfl, iteT ?_⟩
    refine ⟨_, rfl, x, C, dx, _, _, rfl, h1, T.cl, T.nl, rfl, _, rfl, y, C, dy, _, _, rfl, g1, T.cl, T.nl, rfl, _, _, dp_ints h2, dp_ints g2, lo.sml.shaped (by decide), lo.sml.shaped (by decide), _, rfl, ?_⟩
    rw [lo.sml.refl]
    refine iteT ?_
    refine ⟨_, rfl, x, C, dx, _, _, rfl, h1, T.cl, T.ns, rfl, _, rfl, y, C, dy, _, _, rfl, g1, T.cl, T.ns, rfl, _, _, dp_rows h3 h4, dp_rows g3 g4, lor.sml.shaped (by decide), lor.sml.shaped (by decide), ?_⟩
    rw [lor.sml.refl]
    exact q H Ext.rfl'
end
end Rp

namespace Rp
open PySem PySem.Spec PyProof.Rows L2
/-- o.m(e, ..) where what it raises is wished for at the slots as they stand -/
def tMethW (C : Addr) (m : Str) (sp : Sp) (E : L2.St → XK) (ta : TE) (t : TA) : TE := fun σ H Q => ta σ H fun x H1 => ∃ a dx fs, x = .ref a ∧ H1 a = some (.ins C dx fs) ∧ fs.lookup m = none ∧ t σ H1 fun vs H2 => sp (x :: vs) H2 Q (E σ)
theorem pe_methW {X : Cx} {CX : CXT} {k : Nat} {f C : Addr} {fd : FuncData} {ps : List Str} {sp : Sp} {E : L2.St → XK} {m : Str} {pos apos : Pos} {e o : Expr} {es : List Expr} {ta : TE} {t : TA} {pl : Sem Bool}
    (he : PE X o ta) (c : Cls X.K C) (hm : Meth X.K C m f) (F : FnOk X.prog X.w X.K X.mg X.base CX k f fd ps sp) (room : Room k X.A) (hb : L2.Binds X.K fd ps []) (hx : ∀ σ, PassesAt CX X σ (E σ)) (ha : PA X (e :: es) t)
    (hst : starEach (e :: es) X.env = (false, eval e X.env) :: starEach es X.env := by rfl) (hpl : (backTo pos (starEach es X.env)).any (·.1) = false := by rfl)
    (tree : eval (.Call (.Attribute o m apos) (e :: es) [] pos) X.env = (eval o X.env >>= fun ov => standAt apos.atName >>= fun _ => holding [ov] (getMethod ov m pl) >>= fun fx => callWith pos fx.1 fx.2 (backTo pos (starEach (e :: es) X.env)) (backToKw pos (keywordEach [] X.env))) := by rfl) :
    PE X (.Call (.Attribute o m apos) (e :: es) [] pos) (tMethW C m sp E ta t) :=
  ⟨fun pins s σ H Q I h => PySem.W.methodCall_KW (pl := pl) (thn (he.run pins s σ H _ I h) fun u s1 ⟨x, H1, I1, rx, a, dx, fs, ex, ea, l, q⟩ => by
    cases ex
    cases rx
    exact getmeth_ok I1 ea c hm l (PySem.W.callWith_K (first := [.ref a]) (h₀ := X.base) I.ok.mod.kin hm.kp (thn (ha.run pos pins s1 σ H1 _ I1 q) fun us s2 ⟨vs, H2, I2, r, q2⟩ =>
      ⟨I2.kIn, run_fnS (us := .ref a :: us) (vs := .ref a :: vs) F room hb (hx σ) I2 (.cons rfl r) q2⟩) hst hpl)) tree⟩
/-! ### isinstance of a caught error that has fields -/
section
variable {X : Cx} {a : Addr} {cls : Value} {d : Option Addr} {oe : Obj} {pn : List (Addr × Obj)}
/-- isinstance(e, c), e the error that the suite holds at a, of the class cls, its dict d -/
def rIsEd (K : PySem.W.Frag) (a : Addr) (cls : Value) (d : Option Addr) : List V → Hp → VK → Prop := fun xs H Q => ∃ (D dd : Addr) (c : V) (cv : Value) (b : Bool) (fs : List (Str × V)), cls = .ref D ∧ d = some dd ∧ ExcC K D ∧ xs = [.ref a, c] ∧ ClsV c cv ∧ H dd = some (.xd fs) ∧ PySem.W.kitOne K (.ref D) cv = some b ∧ Q (.bl b) H
/-- isinstance(e, (c, ..)) -/
def rIsEdT (K : PySem.W.Frag) (a : Addr) (cls : Value) (d : Option Addr) : List V → Hp → VK → Prop := fun xs H Q => ∃ (D dd tp : Addr) (cs : List V) (us : List Value) (b : Bool) (fs : List (Str × V)), cls = .ref D ∧ d = some dd ∧ ExcC K D ∧ xs = [.ref a, .ref tp] ∧ H tp = some (.tup cs) ∧ Paired ClsV cs us ∧ H dd = some (.xd fs) ∧ PySem.W.kitAny K (.ref D) us = some b ∧ Q (.bl b) H
theorem err_inst {pins : List (Addr × Obj)} {σ : L2.St} {H : Hp} {s : Shared} {D dd : Addr} {fs : List (Str × V)} (I : Inv (X.suite a ((a, oe) :: pn)) pins σ H s) (hz : Zc (.ref D) (some dd) oe) (hf : ∃ vs, oe.data = .fields vs) (hd : H dd = some (.xd fs)) : ∃ od, PySem.W.InstAt s.heap a oe D (some od) := by
  obtain ⟨here, _⟩ := I.pin (a, oe) (List.mem_append.mpr (.inl List.mem_cons_self))
  obtain ⟨vs, hv⟩ := hf
  obtain ⟨mA, ⟨od, _, _, at_, _⟩, _⟩ := (show ObjOk X.prog X.w H s.heap dd (.xd fs) from I.hok dd _ hd)
  refine ⟨od, here, hz.1, ?_, ?_⟩
  · unfold PySem.W.notCls
    rw [hv] <;> rfl
  · rw [hz.2]
    exact at_
theorem exc_kit {K : PySem.W.Frag} {D : Addr} {od : Option Obj} (C : ExcC K D) : PySem.W.KitX K (.ref a) (.ref D) (fun h => PySem.W.InstAt h a oe D od) := by
  obtain ⟨cd, hc, _⟩ := PySem.W.any_some C.hd
  exact PySem.W.kitx_exc (by rw [hc]; rfl) C.hg C.hk C.hs C.ha C.hn C.ht C.hm
theorem call_isEd (hz : Zc cls d oe) (hf : ∃ vs, oe.data = .fields vs) : CallR (X.suite a ((a, oe) :: pn)) (.builtin "isinstance") (rIsEd X.K a cls d) := by
  intro pins s σ H xs us Q I r h
  obtain ⟨D, dd, c, cv, b, fs, rfl, rfl, C, rfl, hcv, hd, e, q⟩ := h
  obtain ⟨od, J⟩ := err_inst I hz hf hd
  cases r with
  | cons rx rr =>
    cases rr with
    | cons rt rr =>
      cases rr
      cases rx
      have ec := hcv.eq rt
      subst ec
      exact PySem.W.kia_one (exc_kit C) I.kIn J e (fun z => nomatch z) fun tk => ⟨.bl b, H, I.tok tk, rfl, q⟩
theorem call_isEdT (hz : Zc cls d oe) (hf : ∃ vs, oe.data = .fields vs) : CallR (X.suite a ((a, oe) :: pn)) (.builtin "isinstance") (rIsEdT X.K a cls d) := by
  intro pins s σ H xs us Q I r h
  obtain ⟨D, dd, tp, cs, ws, b, fs, rfl, rfl, C, rfl, ht, hcs, hd, e, q⟩ := h
  obtain ⟨od, J⟩ := err_inst I hz hf hd
  cases r with
  | cons rx rr =>
    cases rr with
    | cons rt rr =>
      cases rr
      cases rx
      cases rt
      obtain ⟨_, its, rv, o, o1, o2, n, o3⟩ := (show ObjOk X.prog X.w H s.heap tp (.tup cs) from I.hok tp _ ht)
      have es := ClsV.all hcs rv
      subst es
      cases o
      simp only at o2 o3
      subst o2 o3
      exact PySem.W.kia_tup (exc_kit C) I.kIn J o1 e (fun z => nomatch z) fun tk => ⟨.bl b, H, I.tok tk, rfl, q⟩
end
/-! ### data stays where all that was tracked stays -/
theorem SqL.same {K : PySem.W.Frag} {H H' : Hp} {a : Addr} {xs : List V} (h : SqL K H a xs) (s : Same H H') : SqL K H' a xs := Same.seq s h
theorem SqT.same {K : PySem.W.Frag} {H H' : Hp} {a : Addr} {xs : List V} (h : SqT K H a xs) (s : Same H H') : SqT K H' a xs := by
  rcases h with (h | ⟨o, h⟩) | h
  · exact .inl (.inl (s _ _ h))
  · exact .inl (.inr ⟨o, s _ _ h⟩)
  · exact .inr h
mutual
theorem dp_same {K : PySem.W.Frag} {H H' : Hp} (s : Same H H') : ∀ (d : PyData) (v : V), Dp K H v d → Dp K H' v d
  | .none, _, h => by cases h; exact .non
  | .bool b, _, h => by cases h; exact .bl b
  | .int i, _, h => by cases h; exact .int i
  | .str x, _, h => by cases h; exact .str x
  | .list ds, _, h => by
    cases h with
    | lst q a => exact .lst (SqL.same q s) (dp_same_all s ds _ a)
  | .tuple ds, _, h => by
    cases h with
    | tup q a => exact .tup (SqT.same q s) (dp_same_all s ds _ a)
  | .dict _, _, h => by cases h
theorem dp_same_all {K : PySem.W.Frag} {H H' : Hp} (s : Same H H') : ∀ (ds : List PyData) (vs : List V), DpAll K H vs ds → DpAll K H' vs ds
  | [], _, h => by cases h; exact .nil
  | d :: ds, _, h => by
    cases h with
    | cons a b => exact .cons (dp_same s d _ a) (dp_same_all s ds _ b)
end
end Rp

namespace Rp
open PySem PySem.Spec PyProof.Rows L2
abbrev sRE : Stmt := inClass (topS 6) 0
abbrev sWhole : Stmt := topS 15
abbrev sLen : Stmt := inClass (topS 17) 1
abbrev sRepr : Stmt := inClass (topS 17) 4
abbrev sPlace : Stmt := inClass (topS 17) 8
theorem scRE : FnScope ["self", "thing"] ["self", "thing"] (defScope sRE) := ⟨rfl, rfl, rfl, by decide +kernel, rfl, by decide +kernel, by decide +kernel⟩
theorem scWhole : FnScope ["thing"] ["thing"] (defScope sWhole) := ⟨rfl, rfl, rfl, by decide +kernel, rfl, by decide +kernel, by decide +kernel⟩
theorem scLen : FnScope ["self"] ["self"] (defScope sLen) := ⟨rfl, rfl, rfl, by decide +kernel, rfl, by decide +kernel, by decide +kernel⟩
theorem scRepr : FnScope ["self"] ["self"] (defScope sRepr) := ⟨rfl, rfl, rfl, by decide +kernel, rfl, by decide +kernel, by decide +kernel⟩
theorem scPlace : FnScope ["self", "beat", "left", "stretch"] ["self", "beat"] (defScope sPlace) := ⟨rfl, rfl, rfl, by decide +kernel, rfl, by decide +kernel, by decide +kernel⟩
/-! ### where a beat is -/
def spot : List Nat → Nat → Nat × Nat
  | [], b => (0, b)
  | l :: ls, b => if b < l then (0, b) else ((spot ls (b - l)).1 + 1, (spot ls (b - l)).2)
theorem spot_at : ∀ (ns : List Nat) (i j : Nat) (l : Nat), ns[i]? = some l → j < l → spot ns ((ns.take i).sum + j) = (i, j)
  | [], _, _, _, h, _ => by simp at h
  | n :: ns, 0, j, l, h, hj => by
    have e : n = l := Option.some.inj h
    subst e
    unfold spot
    rw [List.take_zero, List.sum_nil, Nat.zero_add, if_pos hj]
  | n :: ns, i + 1, j, l, h, hj => by
    have ih := spot_at ns i j l h hj
    unfold spot
    rw [List.take_succ_cons, List.sum_cons, if_neg (by omega), show n + (ns.take i).sum + j - n = (ns.take i).sum + j by omega, ih]
def natI (ns : List Nat) : List Int := ns.map fun n : Nat => (n : Int)
theorem natI_sum : ∀ ns : List Nat, (natI ns).sum = (ns.sum : Nat)
  | [] => rfl
  | n :: ns => by
    have ih := natI_sum ns
    unfold natI at *
    rw [List.map_cons, List.sum_cons, List.sum_cons, ih]
    omega
theorem take_sum_le : ∀ (ns : List Nat) (i l : Nat), ns[i]? = some l → (ns.take (i + 1)).sum = (ns.take i).sum + l
  | [], _, _, h => by simp at h
  | n :: ns, 0, l, h => by
    have e : n = l := Option.some.inj h
    subst e
    simp
  | n :: ns, i + 1, l, h => by
    have ih := take_sum_le ns i l h
    rw [List.take_succ_cons, List.sum_cons, List.take_succ_cons, List.sum_cons, ih]
    omega
/-! ### what is no beat -/
inductive Odd (C : Addr) (H : Hp) (n : Nat) : V → Prop
  | far {i : Int} (h : i < 0 ∨ (n : Int) ≤ i) : Odd C H n (.int i)
  | bl (b : Bool) : Odd C H n (.bl b)
  | non : Odd C H n .non
  | str (x : Str) : Odd C H n (.str x)
  | tup {a : Addr} {xs : List V} (h : H a = some (.tup xs)) : Odd C H n (.ref a)
  | lst {a : Addr} {xs : List V} (h : H a = some (.lst xs)) : Odd C H n (.ref a)
  | dK {a : Addr} {kvs : List (Key × V)} (h : H a = some (.dK kvs)) : Odd C H n (.ref a)
  | ins {a dx : Addr} {fs : List (Str × V)} (h : H a = some (.ins C dx fs)) : Odd C H n (.ref a)
theorem Odd.same {C : Addr} {H H' : Hp} {n : Nat} {v : V} (h : Odd C H n v) (s : Same H H') : Odd C H' n v := by
  cases h with
  | far h => exact .far h
  | bl b => exact .bl b
  | non => exact .non
  | str x => exact .str x
  | tup h => exact .tup (s _ _ h)
  | lst h => exact .lst (s _ _ h)
  | dK h => exact .dK (s _ _ h)
  | ins h => exact .ins (s _ _ h)
/-- the class, as the written part has it -/
structure TkD (K : PySem.W.Frag) (C fI fL fR fP : Addr) : Prop extends TkB K C fI where
  ln : PySem.W.findIn K (.ref C) "__len__" = some (some (.ref fL))
  lnf : PySem.W.isFn K (.ref fL) = true
  rp : PySem.W.findIn K (.ref C) "__repr__" = some (some (.ref fR))
  rpf : PySem.W.isFn K (.ref fR) = true
  mP : Meth K C "place" fP
  ki : PySem.W.kitOne K (.ref C) (.type "int") = some false
/-- what the written part says of NoBeat -/
structure NbC (K : PySem.W.Frag) (mg : Str → Option Value) (CU fU : Addr) : Prop where
  oc : ObxC K CU
  iU : PySem.W.findIn K (.ref CU) "__init__" = some (some (.ref fU))
  tU : PySem.W.typeIn K (.ref fU) = some (.type "function")
  mU : mg "NoBeat" = some (.ref CU)
  n1 : PySem.W.findIn K (.ref CU) "thing" = some none
def spRE (CU : Addr) : Sp := fun vs H Q _ => ∃ a v1, vs = [.ref a, v1] ∧ H a = some (exo a CU none) ∧
  ∀ d H', H d = none → d ≠ a → (∀ b o, b ≠ a → H b = some o → H' b = some o) → H' a = some (exo a CU (some d)) → H' d = some (exd d [("thing", v1)]) → Q .non H'
/-- is it a whole number -/
def spWhole (K : PySem.W.Frag) : Sp := fun vs H Q _ => ∃ v, vs = [v] ∧ ((∃ i, v = .int i ∧ Q (.bl true) H) ∨ (∃ b, v = .bl b ∧ Q (.bl false) H) ∨ ∃ t, TyX K H v t ∧ PySem.W.kitOne K t (.type "int") = some false ∧ Q (.bl false) H)
def spLen (C : Addr) : Sp := fun vs H Q _ => ∃ x ns bs, vs = [.ref x] ∧ TalkAt C H x (natI ns) bs ∧ ns.sum < 2 ^ 62 ∧ ∀ H', Same H H' → Q (.int (ns.sum : Nat)) H'
def talkText (ls : List Int) (bs : List (List Int)) : Str := ((((Str.empty ++ "Talk(") ++ (dInts ls).shown) ++ ", ") ++ (dRows bs).shown) ++ ")"
def spRepr (C : Addr) : Sp := fun vs H Q _ => ∃ x ls bs, vs = [.ref x] ∧ TalkAt C H x ls bs ∧ Low ls ∧ LowRows bs ∧ Q (.str (talkText ls bs)) H
def spPlace (C CU : Addr) : Sp := fun vs H Q E => ∃ x ns bs v, vs = [.ref x, v] ∧ TalkAt C H x (natI ns) bs ∧ ns.sum < 2 ^ 62 ∧
  ((∃ b : Nat, v = .int b ∧ b < ns.sum ∧ ∀ H' p, Same H H' → H' p = some (.tup [.int ((spot ns b).1 : Nat), .int ((spot ns b).2 : Nat)]) → Q (.ref p) H') ∨
    (Odd C H ns.sum v ∧ ∀ d H', H d = none → Same H H' → H' d = some (.xd [("thing", v)]) → E (.ref CU) (some d) H'))
theorem Sml.len {m n : Nat} {d : PyData} (h : Sml m n d) (hn : n ≤ 150000) : d.shown.length ≤ 8000000 := by
  have q := PyData.shown_le 40 (by decide) d h.ls
  have w := h.wt
  omega
section
variable {P : Program} {w : World} {K : PySem.W.Frag} {mg : Str → Option Value} {base : Heap} {C fI fL fR fP CU fU fW : Addr} {fdL fdU fdW : FuncData}
theorem ok_re {fd : FuncData} (F : Fun K "__init__" "RateError.__init__" sRE fU fd) (U : NbC K mg CU fU) (mV : mg "Exception" = none) (vV : PySem.W.findCls K (.type "Exception") (.type "type") "__init__" = some (.val (.builtin "Exception.__init__"))) :
    FnOk P w K mg base CX0 1 fU fd ["self", "thing"] (spRE CU) := by
  refine F.ok scRE (fun vs H Q E h => ?_) (fun cdv A outer s H vs Q E hr h => ?_)
  · obtain ⟨_, _, rfl, _⟩ := h
    rfl
  · refine ⟨_, pss_cons (ps_expr (pe_exinit (by rfl) mV vV (pa_cons (pv 0) (pa_cons (pv 1) pa_nil))))
    (pss_one (ps_obt (pv 0) (pv 1))), ?_⟩
    obtain ⟨a, v1, rfl, ha, k⟩ := h
    refine ⟨_, rfl, _, rfl, a, CU, _, rfl, (by show 1 ≤ 1000; decide), U.oc, ha, ?_⟩
    refine ⟨_, rfl, _, rfl, a, CU, rfl, U.oc, U.n1, ha, fun d hd hne => ?_⟩
    refine k d _ hd hne (fun b o n e => ?_) upd_same ?_
    · rw [upd_ne n, upd_ne (ne_of_none e hd)]; exact e
    · rw [upd_ne hne, upd_same]
theorem ok_whole {fd : FuncData} (F : Fun K "is_whole" "is_whole" sWhole fW fd) (B : Bi mg) (mI : mg "isinstance" = none) (mB : mg "bool" = none) : FnOk P w K mg base CX0 1 fW fd ["thing"] (spWhole K) := by
  refine F.ok scWhole (fun vs H Q E h => ?_) (fun cdv A outer s H vs Q E hr h => ?_)
  · obtain ⟨_, rfl, _⟩ := h
    rfl
  · refine ⟨_, pss_one (ps_ret (pe_and (pe_callB call_isi (by rfl) mI (by decide +kernel) (pa_cons (pv 0) (pa_cons (pe_bltn (v := .ty "int") (by rfl) B.int (by decide +kernel) rfl) pa_nil))) (pe_one (pe_not (pe_callB call_isi (by rfl) mI (by decide +kernel) (pa_cons (pv 0) (pa_cons (pe_bltn (v := .ty "bool") (by rfl) mB (by decide +kernel) rfl) pa_nil))))))), ?_⟩
    obtain ⟨v, rfl, ⟨i, rfl, q⟩ | ⟨b, rfl, q⟩ | ⟨t, ty, kt, q⟩⟩ := h
    · refine ⟨_, rfl, _, _, _, _, true, rfl, .ty "int", .base (.int i), kit_ty (by decide +kernel), true, rfl, iteT ?_⟩
      exact ⟨_, rfl, _, _, _, _, false, rfl, .ty "bool", .base (.int i), kit_ty (by decide +kernel), false, rfl, q⟩
    · refine ⟨_, rfl, _, _, _, _, true, rfl, .ty "int", .base (.bl b), kit_ty (by decide +kernel), true, rfl, iteT ?_⟩
      exact ⟨_, rfl, _, _, _, _, true, rfl, .ty "bool", .base (.bl b), kit_ty (by decide +kernel), true, rfl, q⟩
    · exact ⟨_, rfl, _, _, _, _, false, rfl, .ty "int", ty, kt, false, rfl, iteF q⟩
theorem ok_len {fd : FuncData} (F : Fun K "__len__" "Talk.__len__" sLen fL fd) (T : TkD K C fI fL fR fP) (B : Bi mg) (mS : mg "sum" = none) : FnOk P w K mg base CX0 1 fL fd ["self"] (spLen C) := by
  refine F.ok scLen (fun vs H Q E h => ?_) (fun cdv A outer s H vs Q E hr h => ?_)
  · obtain ⟨_, _, _, rfl, _⟩ := h
    rfl
  · refine ⟨_, pss_one (ps_ret (pe_callB call_lenRng (by rfl) B.len PySem.boot_len (pa_cons (pe_callTy call_range1 (by rfl) B.range PyProof.Rows.boot_range (pa_cons (pe_callB (call_sumT rfl) (by rfl) mS PyProof.Rows.boot_sum (pa_cons (pe_fld (pv 0) rfl) pa_nil)) pa_nil)) pa_nil))), ?_⟩
    obtain ⟨x, ns, bs, rfl, ⟨dx, a, b, qs, h1, h2, h3, h4⟩, hn, q⟩ := h
    refine ⟨_, rfl, x, C, dx, _, _, rfl, h1, T.cl, T.nl, rfl, a, natI ns, rfl, SqT.of h2, _, rfl, fun p hp => ?_⟩
    refine ⟨p, ns.sum, rfl, ?_, hn, q _ (Same.upd hp)⟩
    rw [upd_same, natI_sum]
theorem ok_repr {fd : FuncData} (F : Fun K "__repr__" "Talk.__repr__" sRepr fR fd) (T : TkD K C fI fL fR fP) : FnA P w K mg base CX0 1 fR fd ["self"] (spRepr C) := by
  refine okA F scRepr (fun vs H Q E h => ?_) (fun cdv A outer s H vs Q E gA hu h => ?_)
  · obtain ⟨_, _, _, rfl, _⟩ := h
    rfl
  · have hu : _ + 64 < cLine := Nat.lt_of_le_of_lt (Nat.add_le_add_left (show 64 ≤ 200 by decide) _) hu
    refine ⟨_, pss_one (ps_ret (pe_joined (PJ.cons (pe_str) (PJ.cons (pe_fmtRD gA hu (pe_fld (pv 0) rfl)) (PJ.cons (pe_str) (PJ.cons (pe_fmtRD gA hu (pe_fld (pv 0) rfl)) (PJ.cons (pe_str) (PJ.nil)))))))), ?_⟩
    obtain ⟨x, ls, bs, rfl, ⟨dx, a, b, qs, h1, h2, h3, h4⟩, lo, lor, q⟩ := h
    have w1 := lo.sml.len (by decide)
    have w2 := lor.sml.len (by decide)
    have e1 : (Str.empty ++ ("Talk(" : Str)).length = 5 := by decide +kernel
    have e2 : ((", " : Str)).length = 2 := by decide +kernel
    have e3 : ((")" : Str)).length = 1 := by decide +kernel
    have ez : sizeLine = 16777216 := sizeLine_eq
    refine ⟨_, rfl, by rw [e1]; decide, ?_⟩
    refine ⟨_, rfl, x, C, dx, _, _, rfl, h1, T.cl, T.nl, rfl, ?_⟩
    refine ⟨a, dInts ls, rfl, dp_ints h2, lo.sml.shw (by decide) (by decide), _, rfl, by rw [strLen_append, e1, ez]; omega, ?_⟩
    refine ⟨_, rfl, by rw [strLen_append, strLen_append, e1, e2, ez]; omega, ?_⟩
    refine ⟨_, rfl, x, C, dx, _, _, rfl, h1, T.cl, T.ns, rfl, b, dRows bs, rfl, dp_rows h3 h4, lor.sml.shw (by decide) (by decide), _, rfl, by rw [strLen_append, strLen_append, strLen_append, e1, e2, ez]; omega, ?_⟩
    exact ⟨_, rfl, by rw [strLen_append, strLen_append, strLen_append, strLen_append, e1, e2, e3, ez]; omega, q⟩
theorem odd_ty {H : Hp} {n : Nat} {v : V} (T : TkD K C fI fL fR fP) (h : Odd C H n v) : (∃ i : Int, v = .int i ∧ (i < 0 ∨ (n : Int) ≤ i)) ∨ (∃ b, v = .bl b) ∨ ∃ t, TyX K H v t ∧ PySem.W.kitOne K t (.type "int") = some false := by
  cases h with
  | far h => exact .inl ⟨_, rfl, h⟩
  | bl b => exact .inr (.inl ⟨b, rfl⟩)
  | non => exact .inr (.inr ⟨_, .base .non, kit_ty (by decide +kernel)⟩)
  | str x => exact .inr (.inr ⟨_, .base (.str x), kit_ty (by decide +kernel)⟩)
  | tup h => exact .inr (.inr ⟨_, .base (.tup h), kit_ty (by decide +kernel)⟩)
  | lst h => exact .inr (.inr ⟨_, .base (.lst h), kit_ty (by decide +kernel)⟩)
  | dK h => exact .inr (.inr ⟨_, .base (.dK h), kit_ty (by decide +kernel)⟩)
  | ins h => exact .inr (.inr ⟨_, T.ty h, T.ki⟩)
theorem natI_get {ns : List Nat} {i : Nat} {l : Nat} (h : ns[i]? = some l) : ((natI ns).map V.int)[i]? = some (.int l) := by
  unfold natI
  rw [List.getElem?_map, List.getElem?_map, h]
  rfl
theorem spot_next {ns : List Nat} {i b : Nat} (h : (ns.take i).sum ≤ b) (hb : b < ns.sum) : ∃ l, ns[i]? = some l := by
  by_cases hi : i < ns.length
  · exact ⟨_, List.getElem?_eq_getElem hi⟩
  · rw [List.take_of_length_le (by omega)] at h
    omega
theorem raise_by {σ : L2.St} {H H1 : Hp} {v : V} {E : XK} (s1 : Same H H1) (k : ∀ d H', H d = none → Same H H' → H' d = some (.xd [("thing", v)]) → E (.ref CU) (some d) H') : tMkO CU (spRE CU) [] (fun _ H Q => Q [v] H) σ H1 E := by
  refine ⟨(by show 1 ≤ 1000; decide), fun e he => ?_⟩
  refine ⟨e, _, rfl, upd_same, fun d H' hd hne kp ha hd' => ?_⟩
  have hd1 : H1 d = none := by rw [← hd, upd_ne hne]
  have hd0 : H d = none := by
    cases q : H d with
    | none => rfl
    | some o => rw [s1 _ _ q] at hd1; cases hd1
  refine ⟨rfl, d, _, ha, hd', hd1, ?_⟩
  refine k d _ hd0 (fun b o q => ?_) upd_same
  have q1 := s1 _ _ q
  have nb : b ≠ e := ne_of_none q1 he
  rw [upd_ne (ne_of_none q1 hd1), del_ne nb]
  exact kp b o nb (by rw [upd_ne nb]; exact q1)
theorem ok_place {fd : FuncData} (F : Fun K "place" "Talk.place" sPlace fP fd) (T : TkD K C fI fL fR fP) (U : NbC K mg CU fU) (B : Bi mg) (mS : mg "sum" = none) (mI : mg "isinstance" = none) (mB : mg "bool" = none) (mV : mg "Exception" = none)
    (vV : PySem.W.findCls K (.type "Exception") (.type "type") "__init__" = some (.val (.builtin "Exception.__init__")))
    (FW : Fun K "is_whole" "is_whole" sWhole fW fdW) (mW : mg "is_whole" = some (.ref fW)) (bW : L2.Binds K fdW ["thing"] []) (FL : Fun K "__len__" "Talk.__len__" sLen fL fdL) (bL : L2.Binds K fdL ["self"] [])
    (FU : Fun K "__init__" "RateError.__init__" sRE fU fdU) (bU : L2.Binds K fdU ["self", "thing"] []) : FnOk P w K mg base (L2.CX P w) 3 fP fd ["self", "beat"] (spPlace C CU) := by
  have GW : FnOk P w K mg base CX0 1 fW fdW ["thing"] (spWhole K) := ok_whole FW B mI mB
  have GL : FnOk P w K mg base CX0 1 fL fdL ["self"] (spLen C) := ok_len FL T B mS
  have GU : FnOk P w K mg base CX0 1 fU fdU ["self", "thing"] (spRE CU) := ok_re FU U mV vV
  refine F.okX scPlace (fun vs H Q E h => ?_) (fun cdv A outer s H vs Q E hr h => ?_)
  · obtain ⟨_, _, _, _, rfl, _⟩ := h
    rfl
  · have nd := scPlace.nd
    have hr1 : Room 1 _ := hr.mono (by decide)
    have hr2 : Room 2 _ := hr.mono (by decide)
    refine ⟨_, pss_cons (ps_if (PW.pt (pw_or (pt_not (pt_val (pe_call GW hr1 (by rfl) mW FW.kp bW .nil pass0 (pa_cons (pv 1) pa_nil)))) (pw_or1 (pt_not (pt_chain op_le op_lt (pe_int) (pv 1) (pe_callB (call_lenI (E := fun _ _ _ => False) GL T.ln T.lnf bL pass0 hr2) (by rfl) B.len PySem.boot_len (pa_cons (pv 0) pa_nil))))))) (pss_one (ps_raise rfl (takes_of rfl rfl rfl rfl) (pmk_obx U.oc U.iU U.tU GU hr2 bU .nil pass0 (by rfl) U.mU (pa_cons (pv 1) pa_nil)))) (pss_nil))
    (pss_cons (ps_set (i := 2) nd rfl (Or.inl rfl) (pv 1))
    (pss_cons (ps_set (i := 3) nd rfl (Or.inl rfl) (pe_int))
    (pss_cons (ps_while (passes_of rfl) (pt_cmpR op_ge (pv 2) (pe_ix ix_tup (pe_fld (pv 0) rfl) (pv 3) (fun _ _ => rfl)) (nomark _)) (pss_cons (ps_aug (i := 2) nd rfl (Or.inl rfl) (pe_ix ix_tup (pe_fld (pv 0) rfl) (pv 3) (fun _ _ => rfl)) ip_sub)
      (pss_one (ps_aug (i := 3) nd rfl (Or.inl rfl) (pe_int) ip_add))))
    (pss_one (ps_ret (pe_tup (pa_cons (pv 3) (pa_cons (pv 2) pa_nil)))))))), ?_⟩
    obtain ⟨x, ns, bs, v, rfl, hx, hn, ⟨n, rfl, hb, k⟩ | ⟨odd, k⟩⟩ := h
    · obtain ⟨dx, a, b, qs, h1, h2, h3, h4⟩ := id hx
      refine ⟨_, rfl, _, rfl, .inl ⟨_, rfl, true, rfl, iteF ?_⟩⟩
      refine ⟨_, rfl, _, _, rfl, rfl, _, rfl, ite2 (fun _ => ?_) (fun c => absurd (decide_eq_true (by omega)) c)⟩
      refine ⟨_, rfl, x, dx, _, rfl, h1, x, ns, bs, rfl, hx, hn, fun H1 s1 => ⟨ns.sum, rfl, hn, _, _, rfl, rfl, _, rfl, ?_⟩⟩
      rw [decide_eq_true (show (n : Int) < (ns.sum : Nat) by omega)]
      refine iteF ⟨_, rfl, ?_⟩
      refine ⟨fun m σ H2 => ∃ st left : Nat, σ = [some (.ref x), some (.int (n : Nat)), some (.int (left : Nat)), some (.int (st : Nat))] ∧ m + st = ns.length ∧ (ns.take st).sum + left = n ∧ Same H1 H2, ⟨ns.length, 0, n, rfl, rfl, by simp, Same.refl _⟩, ?_⟩
      rintro m σ H2 ⟨st, left, rfl, em, el, s2⟩
      obtain ⟨l, hl⟩ := spot_next (i := st) (b := n) (by omega) hb
      have s12 := s1.trans s2
      have hst : st < ns.length := (List.getElem?_eq_some_iff.mp hl).1
      refine ⟨_, rfl, _, rfl, x, C, dx, _, _, rfl, s12 _ _ h1, T.cl, T.nl, rfl, _, rfl, a, _, st, _, rfl, rfl, SqT.of (s12 _ _ h2), atI_nat (natI_get hl), _, _, rfl, rfl, _, rfl, ite2 (fun c => ?_) (fun c => ?_)⟩
      · have c : l ≤ left := by have := of_decide_eq_true c; omega
        refine ⟨_, fun _ _ h => h, ?_⟩
        refine ⟨_, rfl, _, rfl, x, C, dx, _, _, rfl, s12 _ _ h1, T.cl, T.nl, rfl, _, rfl, a, _, st, _, rfl, rfl, SqT.of (s12 _ _ h2), atI_nat (natI_get hl), _, _, rfl, rfl, ?_⟩
        refine ⟨_, rfl, _, _, rfl, rfl, ?_⟩
        have e1 : (left : Int) - (l : Int) = ((left - l : Nat) : Int) := by omega
        have e2 : (st : Int) + 1 = ((st + 1 : Nat) : Int) := by omega
        refine ⟨m - 1, by omega, st + 1, left - l, ?_, by omega, ?_, s2⟩
        · show [some (V.ref x), some (V.int (n : Nat)), some (V.int ((left : Int) - (l : Int))), some (V.int ((st : Int) + 1))] = _
          rw [e1, e2]
        · rw [take_sum_le ns st l hl]
          omega
      · have c : left < l := by
          have c' : ¬ ((l : Int) ≤ (left : Int)) := fun z => c (decide_eq_true z)
          omega
        refine ⟨_, rfl, _, rfl, (by show 2 ≤ sizeLine; decide), fun p hp => ?_⟩
        refine k _ p (s12.trans (Same.upd hp)) ?_
        rw [upd_same, ← el, spot_at ns st left l hl c]
    · obtain ⟨dx, a, b, qs, h1, h2, h3, h4⟩ := id hx
      rcases odd_ty T odd with ⟨i, rfl, far⟩ | ⟨y, rfl⟩ | ⟨t, ty, kt⟩
      · refine ⟨_, rfl, _, rfl, .inl ⟨_, rfl, true, rfl, iteF ?_⟩⟩
        refine ⟨_, rfl, _, _, rfl, rfl, _, rfl, ite2 (fun c0 => ?_) (fun c => ?_)⟩
        · refine ⟨_, rfl, x, dx, _, rfl, h1, x, ns, bs, rfl, hx, hn, fun H1 s1 => ⟨ns.sum, rfl, hn, _, _, rfl, rfl, _, rfl, ?_⟩⟩
          have c0 := of_decide_eq_true c0
          rw [decide_eq_false (show ¬ (i < ((ns.sum : Nat) : Int)) by omega)]
          exact iteT ⟨_, rfl, raise_by (σ := []) s1 k⟩
        · refine ⟨_, rfl, ?_⟩
          exact iteT ⟨_, rfl, raise_by (σ := []) (Same.refl _) k⟩
      · exact ⟨_, rfl, _, rfl, .inr (.inl ⟨_, rfl, false, rfl, iteT (iteT ⟨_, rfl, raise_by (σ := []) (Same.refl _) k⟩)⟩)⟩
      · exact ⟨_, rfl, _, rfl, .inr (.inr ⟨t, ty, kt, false, rfl, iteT (iteT ⟨_, rfl, raise_by (σ := []) (Same.refl _) k⟩)⟩)⟩
end
end Rp

namespace Rp
open PySem PySem.Spec PyProof.Rows L2
theorem Fine.low {ls : List Int} {bs : List (List Int)} (h : Fine ls bs) : Low ls := ⟨Nat.le_trans h.most (by decide), fun n hn => by have := h.ls n hn; omega⟩
theorem Fine.lowR {ls : List Int} {bs : List (List Int)} (h : Fine ls bs) : LowRows bs := by
  obtain ⟨r, h1, h2, h3⟩ := h.bs
  refine ⟨by have := h.most; have := h.same; omega, fun row hr => ?_⟩
  obtain ⟨e, ok⟩ := h3 row hr
  exact ⟨by omega, fun n hn => by have := ok n hn; omega⟩
theorem But.same {w : Addr} {H H1 H2 : Hp} (b : But w H H1) (s : Same H1 H2) : But w H H2 := fun c o n h => s c o (b c o n h)
theorem Well.same {w : Addr} {H H' : Hp} (h : Well H w) (s : Same H H') : Well H' w := let ⟨a, b, c, h⟩ := h; ⟨a, b, c, s _ _ h⟩
theorem Same.but {w : Addr} {H H' : Hp} (s : Same H H') : But w H H' := fun c o _ h => s c o h
theorem TalkAt.but {C : Addr} {w : Addr} {H H' : Hp} {x : Addr} {ls : List Int} {bs : List (List Int)} (h : TalkAt C H x ls bs) (b : But w H H') (hw : Well H w) : TalkAt C H' x ls bs := by
  obtain ⟨dx, a, c, qs, h1, h2, h3, h4⟩ := h
  have hw' := hw
  obtain ⟨_, _, _, e⟩ := hw'
  exact ⟨dx, a, c, qs, b _ _ (ne_of h1 e (by intro z; cases z)) h1, b.tup hw _ _ h2, b.tup hw _ _ h3, h4.imp (b.tup hw)⟩
theorem new_at {H : Hp} {p : Addr} {o : HO} (_ : H p = none) : upd H p o p = some o := upd_same
theorem same_of_but {w : Addr} {H H1 H2 : Hp} (hw : H w = none) (s : Same H H1) (b : But w H1 H2) : Same H H2 := fun c o h => b c o (ne_of_none h hw) (s c o h)
theorem Fine.cons {ls : List Int} {bs : List (List Int)} (h : Fine ls bs) : ∃ r rs, bs = r :: rs := by
  cases bs with
  | nil =>
    have e : ls.length = 0 := h.same
    have := h.pos
    omega
  | cons r rs => exact ⟨r, rs, rfl⟩
end Rp

namespace Rp
open PySem PySem.Spec PyProof.Rows L2
abbrev sPlaces : Stmt := topS 22
abbrev sTold : Stmt := topS 23
theorem scPlaces : FnScope ["_law_lengths", "_law_found", "_law_number", "_law_beat"] ["_law_lengths"] (defScope sPlaces) := ⟨rfl, rfl, rfl, by decide +kernel, rfl, by decide +kernel, by decide +kernel⟩
theorem scTold : FnScope ["_law_talk_here", "_law_thing", "_law_found", "e", "_law_others"] ["_law_talk_here", "_law_thing"] (defScope sTold) := ⟨rfl, rfl, rfl, by decide +kernel, rfl, by decide +kernel, by decide +kernel⟩
/-! ### the dues -/
/-- a list at L whose m items are the places of the first m beats -/
structure DuesAt (ns : List Nat) (L : Addr) (ps : List Addr) (H : Hp) : Prop where
  at_ : H L = some (.lst (ps.map V.ref))
  it : ∀ (b : Nat) (p : Addr), ps[b]? = some p → H p = some (.tup [.int ((spot ns b).1 : Nat), .int ((spot ns b).2 : Nat)])
theorem DuesAt.same {ns : List Nat} {L : Addr} {ps : List Addr} {H H' : Hp} (d : DuesAt ns L ps H) (s : Same H H') : DuesAt ns L ps H' := ⟨s _ _ d.at_, fun b p h => s _ _ (d.it b p h)⟩
theorem DuesAt.push {ns : List Nat} {L p : Addr} {ps : List Addr} {H : Hp} {i j : Nat} (d : DuesAt ns L ps H) (hp : H p = none) (e : spot ns ps.length = (i, j)) : DuesAt ns L (ps ++ [p]) (upd (upd H p (.tup [.int (i : Nat), .int (j : Nat)])) L (.lst (ps.map V.ref ++ [.ref p]))) := by
  have hne : p ≠ L := Ne.symm (ne_of_none d.at_ hp)
  refine ⟨by rw [upd_same, List.map_append]; rfl, fun b q h => ?_⟩
  by_cases hb : b < ps.length
  · rw [List.getElem?_append_left hb] at h
    have h1 := d.it b q h
    rw [upd_ne (ne_of h1 d.at_ (by intro z; cases z)), upd_ne (ne_of_none h1 hp)]
    exact h1
  · rw [List.getElem?_append_right (by omega)] at h
    have e0 : b - ps.length = 0 := by
      cases q0 : b - ps.length with
      | zero => rfl
      | succ k => rw [q0] at h; simp at h
    rw [e0] at h
    have eq : p = q := Option.some.inj h
    subst eq
    have eb : b = ps.length := by omega
    subst eb
    rw [upd_ne hne, upd_same, e]
theorem sum_le {n k : Nat} : ∀ {ns : List Nat}, ns.length ≤ n → (∀ l ∈ ns, l ≤ k) → ns.sum ≤ n * k := by
  induction n with
  | zero =>
    intro ns h _
    cases ns with
    | nil => simp
    | cons a l => simp at h
  | succ n ih =>
    intro ns h hk
    cases ns with
    | nil => simp
    | cons a l =>
      have := ih (ns := l) (by rw [List.length_cons] at h; omega) (fun x hx => hk x (List.mem_cons_of_mem _ hx))
      have := hk a List.mem_cons_self
      rw [List.sum_cons, Nat.succ_mul]
      omega
theorem take_le : ∀ (ns : List Nat) (i : Nat), (ns.take i).sum ≤ ns.sum
  | [], i => by simp
  | n :: ns, 0 => by simp
  | n :: ns, i + 1 => by
    have := take_le ns i
    rw [List.take_succ_cons, List.sum_cons, List.sum_cons]
    omega
def spPlaces : Sp := fun vs H Q _ => ∃ a ns, vs = [.ref a] ∧ H a = some (.tup ((natI ns).map V.int)) ∧ ns.length ≤ 12 ∧ (∀ l ∈ ns, l ≤ 20) ∧
  ∀ H' L ps, Same H H' → H L = none → DuesAt ns L ps H' → ps.length = ns.sum → Q (.ref L) H'
/-! ### what may be shown -/
inductive Thing (K : PySem.W.Frag) (C : Addr) (H : Hp) : V → Str → Prop
  | dat {v : V} {d : PyData} (h : Dp K H v d) (w : Shw d) : Thing K C H v d.shown
  | dict {v : V} {d : PyData} (h : DkAt H v d) (sh : d.showable = true) (dp : d.depth ≤ 16) (sz : d.shown.length ≤ sizeLine) : Thing K C H v d.shown
  | talk {x : Addr} {ls : List Int} {bs : List (List Int)} (h : TalkAt C H x ls bs) (lo : Low ls) (lor : LowRows bs) : Thing K C H (.ref x) (talkText ls bs)
theorem Thing.same {K : PySem.W.Frag} {C : Addr} {H H' : Hp} {v : V} {t : Str} (h : Thing K C H v t) (s : Same H H') : Thing K C H' v t := by
  cases h with
  | dat h w => exact .dat (dp_same s _ _ h) w
  | dict h a b c =>
    obtain ⟨x, ns, e1, e2, e3⟩ := h
    exact .dict ⟨x, ns, e1, s _ _ e2, e3⟩ a b c
  | talk h a b => exact .talk (h.same s) a b
def rReprT (K : PySem.W.Frag) (C : Addr) : List V → Hp → VK → Prop := fun xs H Q => ∃ v t, xs = [v] ∧ Thing K C H v t ∧ Q (.str t) H
theorem call_reprT {X : Cx} {C fI fL fR fP : Addr} {fdR : FuncData} (FR : FnA X.prog X.w X.K X.mg X.base CX0 1 fR fdR ["self"] (spRepr C)) (T : TkD X.K C fI fL fR fP) (bR : L2.Binds X.K fdR ["self"] []) (gA : X.A.guards = some []) (hr : RoomA 2 X.A) :
    CallR X (.builtin "repr") (rReprT X.K C) := by
  intro pins s σ H xs us Q I r h
  obtain ⟨v, t, rfl, h, q⟩ := h
  have hu := hr.un
  cases h with
  | dat hd hw => exact call_reprD gA (by omega) pins s σ H _ us Q I r ⟨v, _, rfl, hd, hw, q⟩
  | dict hd sh dp sz =>
    cases r with
    | cons r1 rr =>
      cases rr
      obtain ⟨a, as, rfl, rd, hsm⟩ := dk_reads I hd r1
      exact repr_of_reads' rd sh (fun _ => hsm) gA (by omega) (fun _ _ z => z) (fun h' u tk kp => ⟨.str _, H, I.kept kp, ⟨_, rfl⟩, q⟩) sz
  | @talk x ls bs h lo lor =>
    obtain ⟨dx, _, _, _, hx, _⟩ := id h
    exact call_reprI (E := fun _ _ _ => False) FR T.rp T.rpf bR pass0 gA hr pins s σ H _ us Q I r ⟨x, dx, _, rfl, hx, x, ls, bs, rfl, h, lo, lor, _, rfl, q⟩
/-- what the law's handler asks of the errors' classes -/
structure ErD (K : PySem.W.Frag) (mg : Str → Option Value) (CU UNoFit UNoName UNoPace UNoRate UNoRoom UNotNow UNoSpeed UNoText UTooMany UUnlike URateError : Addr) : Prop where
  ec : ExcC K CU
  xf : XfC K CU
  em : PySem.W.exmOne K (.ref CU) (.ref CU) = some true
  NoFit : mg "NoFit" = some (.ref UNoFit)
  NoName : mg "NoName" = some (.ref UNoName)
  NoPace : mg "NoPace" = some (.ref UNoPace)
  NoRate : mg "NoRate" = some (.ref UNoRate)
  NoRoom : mg "NoRoom" = some (.ref UNoRoom)
  NotNow : mg "NotNow" = some (.ref UNotNow)
  NoSpeed : mg "NoSpeed" = some (.ref UNoSpeed)
  NoText : mg "NoText" = some (.ref UNoText)
  TooMany : mg "TooMany" = some (.ref UTooMany)
  Unlike : mg "Unlike" = some (.ref UUnlike)
  RateError : mg "RateError" = some (.ref URateError)
  mValueError : mg "ValueError" = none
  mArithmeticError : mg "ArithmeticError" = none
  kNoFit : PySem.W.kitOne K (.ref CU) (.ref UNoFit) = some false
  kNoName : PySem.W.kitOne K (.ref CU) (.ref UNoName) = some false
  kNoPace : PySem.W.kitOne K (.ref CU) (.ref UNoPace) = some false
  kNoRate : PySem.W.kitOne K (.ref CU) (.ref UNoRate) = some false
  kNoRoom : PySem.W.kitOne K (.ref CU) (.ref UNoRoom) = some false
  kNotNow : PySem.W.kitOne K (.ref CU) (.ref UNotNow) = some false
  kNoSpeed : PySem.W.kitOne K (.ref CU) (.ref UNoSpeed) = some false
  kNoText : PySem.W.kitOne K (.ref CU) (.ref UNoText) = some false
  kTooMany : PySem.W.kitOne K (.ref CU) (.ref UTooMany) = some false
  kUnlike : PySem.W.kitOne K (.ref CU) (.ref UUnlike) = some false
  kRateError : PySem.W.kitOne K (.ref CU) (.ref URateError) = some true
  kValueError : PySem.W.kitOne K (.ref CU) (.type "ValueError") = some false
  kArithmeticError : PySem.W.kitOne K (.ref CU) (.type "ArithmeticError") = some false
theorem ErD.any8 {K : PySem.W.Frag} {mg : Str → Option Value} {CU a b c d e f g h i j k : Addr} (M : ErD K mg CU a b c d e f g h i j k) : PySem.W.kitAny K (.ref CU) [.ref a, .ref b, .ref c, .ref d, .ref e, .ref f, .type "ValueError", .type "ArithmeticError"] = some false :=
  kitAny_cons M.kNoFit (fun _ => kitAny_cons M.kNoName (fun _ => kitAny_cons M.kNoPace (fun _ => kitAny_cons M.kNoRate (fun _ => kitAny_cons M.kNoRoom (fun _ => kitAny_cons M.kNotNow (fun _ => kitAny_cons M.kValueError (fun _ => kitAny_cons M.kArithmeticError (fun _ => kitAny_nil) nofun) nofun) nofun) nofun) nofun) nofun) nofun) nofun
theorem ErD.any4 {K : PySem.W.Frag} {mg : Str → Option Value} {CU a b c d e f g h i j k : Addr} (M : ErD K mg CU a b c d e f g h i j k) : PySem.W.kitAny K (.ref CU) [.ref g, .ref h, .ref i, .ref j] = some false :=
  kitAny_cons M.kNoSpeed (fun _ => kitAny_cons M.kNoText (fun _ => kitAny_cons M.kTooMany (fun _ => kitAny_cons M.kUnlike (fun _ => kitAny_nil) nofun) nofun) nofun) nofun
def spTold (K : PySem.W.Frag) (C : Addr) : Sp := fun vs H Q _ => ∃ x ns bs v, vs = [.ref x, v] ∧ TalkAt C H x (natI ns) bs ∧ ns.sum < 2 ^ 62 ∧
  ((∃ b : Nat, v = .int b ∧ b < ns.sum ∧ ∀ H' p, Same H H' → H' p = some (.tup [.int ((spot ns b).1 : Nat), .int ((spot ns b).2 : Nat)]) → Q (.ref p) H') ∨
    (Odd C H ns.sum v ∧ (∃ t, Thing K C H v t) ∧ ∀ H', Same H H' → Q (.str "none") H'))
section
variable {P : Program} {w : World} {K : PySem.W.Frag} {mg : Str → Option Value} {base : Heap} {C fI fL fR fP CU fU fW : Addr} {fdL fdU fdW fdP fdR : FuncData} {UNoFit UNoName UNoPace UNoRate UNoRoom UNotNow UNoSpeed UNoText UTooMany UUnlike URateError : Addr}
theorem ok_places {f : Addr} {fd : FuncData} (F : Fun K "_law_places" "_law_places" sPlaces f fd) (B : Bi mg) : FnOk P w K mg base CX0 1 f fd ["_law_lengths"] spPlaces := by
  refine F.ok scPlaces (fun vs H Q E h => ?_) (fun cdv A outer s H0 vs Q E hr h => ?_)
  · obtain ⟨_, _, rfl, _⟩ := h
    rfl
  · have nd := scPlaces.nd
    refine ⟨_, pss_cons (ps_set (i := 1) nd rfl (Or.inl rfl) (pe_lst (pa_nil)))
    (pss_cons (ps_for PassesOwn.never rfl (pi_range1 (by rfl) B.range (pa_cons (pe_callB call_len_seq (by rfl) B.len PySem.boot_len (pa_cons (pv 0) pa_nil)) pa_nil)) (pg_name (i := 2) nd rfl (Or.inl rfl)) (pss_one (ps_for PassesOwn.never rfl (pi_range1 (by rfl) B.range (pa_cons (pe_ix ix_tup (pv 0) (pv 2) (fun _ _ => rfl)) pa_nil)) (pg_name (i := 3) nd rfl (Or.inl rfl)) (pss_one (ps_expr (pe_bm PySem.F.plainAttrs_list PySem.F.slot_list_append PySem.F.type_list_append mt_append (pv 1) (pa_cons (pe_tup (pa_cons (pv 2) (pa_cons (pv 3) pa_nil))) pa_nil)))))))
    (pss_one (ps_ret (pv 1)))), ?_⟩
    obtain ⟨a, ns, rfl, ha, n12, n20, k⟩ := h
    have hs := sum_le n12 n20
    have hlen : ((natI ns).map V.int).length = ns.length := by unfold natI; rw [List.length_map, List.length_map]
    refine ⟨Nat.zero_le _, fun L hL => ?_⟩
    refine ⟨_, rfl, a, _, rfl, .inr (SqT.of ((Same.upd hL) _ _ ha)), ?_⟩
    rw [hlen]
    refine ⟨_, rfl, (by omega), (by omega), for_range (lo := 0) (n := ns.length) (fun i σ H => ∃ v2 v3, σ = [some (.ref a), some (.ref L), v2, v3] ∧ ∃ ps, DuesAt ns L ps H ∧ ps.length = (ns.take i).sum ∧ Same H0 H) ⟨none, none, rfl, [], ⟨new_at hL, fun b p h => by simp at h⟩, by simp, Same.upd hL⟩ ?_ ?_⟩
    · rintro i σ H hi ⟨v2, v3, rfl, ps, du, el, sH⟩
      obtain ⟨l, hl⟩ : ∃ l, ns[i]? = some l := ⟨_, List.getElem?_eq_getElem hi⟩
      have e0 : (0 + (i : Int)) = (i : Int) := by omega
      rw [e0]
      have l20 := n20 l (List.mem_of_getElem? hl)
      refine ⟨_, rfl, _, rfl, a, _, i, _, rfl, rfl, SqT.of (sH _ _ ha), atI_nat (natI_get hl), _, rfl, (by omega), (by omega), for_range (lo := 0) (n := l) (fun j σ H => ∃ v3, σ = [some (.ref a), some (.ref L), some (.int (i : Nat)), v3] ∧ ∃ ps, DuesAt ns L ps H ∧ ps.length = (ns.take i).sum + j ∧ Same H0 H) ⟨v3, rfl, ps, du, by omega, sH⟩ ?_ ?_⟩
      · rintro j σ H hj ⟨v3, rfl, ps, du, el, sH⟩
        have e0 : (0 + (j : Int)) = (j : Int) := by omega
        rw [e0]
        have hsp := spot_at ns i j l hl hj
        rw [← el] at hsp
        have tl := take_sum_le ns i l hl
        have tt := take_le ns (i + 1)
        refine ⟨_, rfl, .inl ⟨rfl, _, SqL.of du.at_⟩, _, rfl, _, rfl, (by show 2 ≤ sizeLine; decide), fun p hp => ?_⟩
        have sP := Same.upd (o := .tup [.int (i : Nat), .int (j : Nat)]) hp
        refine ⟨L, _, _, rfl, rfl, sP _ _ du.at_, by rw [List.length_map]; exact small1000 (by omega), ?_⟩
        refine ⟨_, rfl, ps ++ [p], du.push hp hsp, by rw [List.length_append, el]; rfl, fun b o e => ?_⟩
        rw [upd_ne (ne_of_none e hL)]
        exact sP _ _ (sH _ _ e)
      · rintro σ H ⟨v3, rfl, ps, du, el, sH⟩
        exact ⟨_, _, rfl, ps, du, by rw [el, take_sum_le ns i l hl], sH⟩
    · rintro σ H ⟨v2, v3, rfl, ps, du, el, sH⟩
      refine ⟨_, rfl, k H L ps sH hL du ?_⟩
      rw [el, List.take_length]
theorem ok_told {f : Addr} {fd : FuncData} (F : Fun K "_law_told" "_law_told" sTold f fd) (T : TkD K C fI fL fR fP) (U : NbC K mg CU fU) (M : ErD K mg CU UNoFit UNoName UNoPace UNoRate UNoRoom UNotNow UNoSpeed UNoText UTooMany UUnlike URateError) (mI : mg "isinstance" = none) (mR : mg "repr" = none)
    (GP : FnOk P w K mg base (L2.CX P w) 3 fP fdP ["self", "beat"] (spPlace C CU)) (bP : L2.Binds K fdP ["self", "beat"] [])
    (FR : FnA P w K mg base CX0 1 fR fdR ["self"] (spRepr C)) (bR : L2.Binds K fdR ["self"] []) : FnG P w K mg base CX0 4 f fd ["_law_talk_here", "_law_thing"] (spTold K C) := by
  refine okG F scTold (fun vs H Q E h => ?_) (fun cdv A outer s H0 vs Q E gA hr h => ?_)
  · obtain ⟨_, _, _, _, rfl, _⟩ := h
    rfl
  · have nd := scTold.nd
    have hr1 : Room 1 _ := hr.mono (by decide)
    have hr2 : Room 2 _ := hr.mono (by decide)
    refine ⟨_, pss_cons (ps_set (i := 2) nd rfl (Or.inl rfl) (pe_str))
    (pss_cons (ps_try_as (i := 3) rfl rfl nd rfl rfl ⟨rfl, by decide, Or.inl U.mU⟩ takes0 (fun W pn xe tk _ => pss_one (ps_set (i := 2) nd rfl (Or.inl rfl) (pe_methW (pv 0) T.cl T.mP GP hr bP (fun σ => passAt tk σ) (pa_cons (pv 1) pa_nil)))) (fun a oe cls d pn hz hf => pss_cons (ps_set (i := 4) nd rfl (Or.inl rfl) (pe_callB (call_isEdT hz hf) (by rfl) mI (by decide +kernel) (pa_cons (pv 3) (pa_cons (pe_tup (pa_cons (pe_glob (v := .ref UNoFit) (by rfl) M.NoFit rfl) (pa_cons (pe_glob (v := .ref UNoName) (by rfl) M.NoName rfl) (pa_cons (pe_glob (v := .ref UNoPace) (by rfl) M.NoPace rfl) (pa_cons (pe_glob (v := .ref UNoRate) (by rfl) M.NoRate rfl) (pa_cons (pe_glob (v := .ref UNoRoom) (by rfl) M.NoRoom rfl) (pa_cons (pe_glob (v := .ref UNotNow) (by rfl) M.NotNow rfl) (pa_cons (pe_bltn (v := .ty "ValueError") (by rfl) M.mValueError (by decide +kernel) rfl) (pa_cons (pe_bltn (v := .ty "ArithmeticError") (by rfl) M.mArithmeticError (by decide +kernel) rfl) pa_nil))))))))) pa_nil))))
        (pss_cons (ps_set (i := 4) nd rfl (Or.inl rfl) (pe_or (pv 4) (pe_one (pe_callB (call_isEdT hz hf) (by rfl) mI (by decide +kernel) (pa_cons (pv 3) (pa_cons (pe_tup (pa_cons (pe_glob (v := .ref UNoSpeed) (by rfl) M.NoSpeed rfl) (pa_cons (pe_glob (v := .ref UNoText) (by rfl) M.NoText rfl) (pa_cons (pe_glob (v := .ref UTooMany) (by rfl) M.TooMany rfl) (pa_cons (pe_glob (v := .ref UUnlike) (by rfl) M.Unlike rfl) pa_nil))))) pa_nil))))))
        (pss_one (ps_if (PW.pt (pw_and (pt_val (pe_callB (call_isEd hz hf) (by rfl) mI (by decide +kernel) (pa_cons (pv 3) (pa_cons (pe_glob (v := .ref URateError) (by rfl) M.RateError rfl) pa_nil)))) (pw_and (pt_not (pt_val (pv 4))) (pw_and1 (pt_cmpR op_eq (pe_callB (r := rReprT K C) (call_reprT FR T bR gA ⟨hr2.dp, hr2.un⟩) (by rfl) mR boot_repr (pa_cons (pe_xf M.xf U.n1 hz hf (pv 3)) pa_nil)) (pe_callB (r := rReprT K C) (call_reprT FR T bR gA ⟨hr2.dp, hr2.un⟩) (by rfl) mR boot_repr (pa_cons (pv 1) pa_nil)) (nomark _)))))) (pss_one (ps_set (i := 2) nd rfl (Or.inl rfl) (pe_str))) (pss_nil))))))
    (pss_one (ps_ret (pv 2)))), ?_⟩
    obtain ⟨x, ns, bs, v, rfl, hx, hn, hc⟩ := h
    obtain ⟨dx, a, b, qs, h1, h2, h3, h4⟩ := id hx
    refine ⟨_, rfl, x, dx, _, rfl, h1, rfl, _, rfl, x, ns, bs, v, rfl, hx, hn, ?_⟩
    rcases hc with ⟨n, rfl, hb, k⟩ | ⟨odd, ⟨t, th⟩, k⟩
    · exact .inl ⟨n, rfl, hb, fun H1 p s1 hp => ⟨_, rfl, k H1 p s1 hp⟩⟩
    · refine .inr ⟨odd, fun d H1 hd s1 hd1 => ?_⟩
      refine ⟨true, M.em, fun _ a0 ha0 => ?_, fun z => Bool.noConfusion z⟩
      refine ⟨_, rfl, (by show 8 ≤ sizeLine; decide), fun tp htp => ?_⟩
      have s4 := Same.upd (o := .tup [.ref UNoFit, .ref UNoName, .ref UNoPace, .ref UNoRate, .ref UNoRoom, .ref UNotNow, .ty "ValueError", .ty "ArithmeticError"]) htp
      refine ⟨CU, d, tp, _, _, false, _, rfl, rfl, M.ec, rfl, new_at htp, .cons (.own _) (.cons (.own _) (.cons (.own _) (.cons (.own _) (.cons (.own _) (.cons (.own _) (.cons (.ty _) (.cons (.ty _) .nil))))))), s4 _ _ hd1, M.any8, ?_⟩
      refine ⟨_, rfl, false, rfl, iteF ?_⟩
      refine ⟨_, rfl, (by show 4 ≤ sizeLine; decide), fun tq htq => ?_⟩
      have s5 := Same.upd (o := .tup [.ref UNoSpeed, .ref UNoText, .ref UTooMany, .ref UUnlike]) htq
      have s45 := s4.trans s5
      refine ⟨CU, d, tq, _, _, false, _, rfl, rfl, M.ec, rfl, new_at htq, .cons (.own _) (.cons (.own _) (.cons (.own _) (.cons (.own _) .nil))), s45 _ _ hd1, M.any4, ?_⟩
      refine ⟨_, rfl, CU, d, _, _, true, _, rfl, rfl, M.ec, rfl, .own _, s45 _ _ hd1, M.kRateError, true, rfl, iteT ⟨_, rfl, false, rfl, iteT ?_⟩⟩
      have s15 := s1.trans s45
      refine ⟨_, rfl, rfl, rfl, d, _, _, rfl, s45 _ _ hd1, rfl, v, t, rfl, th.same s15, _, rfl, v, t, rfl, th.same s15, rfl, _, rfl, ?_⟩
      rw [decide_eq_true rfl]
      exact iteT ⟨_, rfl, k _ s15⟩
end
end Rp

namespace Rp
open PySem PySem.Spec PyProof.Rows L2
abbrev sLaw : Stmt := topS 24
theorem scLaw : FnScope ["_law_script", "_law_k", "_law_well_here", "_law_row", "_law_talk_here", "_law_dues", "_law_many", "_law_first", "_law_step", "_law_order", "_law_beat", "_law_some", "_law_thing", "_law_at"] ["_law_script"] (defScope sLaw) := ⟨rfl, rfl, rfl, by decide +kernel, rfl, by decide +kernel, by decide +kernel⟩
def spLaw (K : PySem.W.Frag) : Sp := fun vs H Q _ => ∃ (a : Addr) (ns : List Int), vs = [.ref a] ∧ SqL K H a (ns.map V.int) ∧ ∀ H', Q (.bl true) H'
/-! ### what stands while a turn goes -/
structure Bse (C w x L : Addr) (ns : List Nat) (bs : List (List Int)) (ps : List Addr) (H : Hp) : Prop where
  well : Well H w
  tk : TalkAt C H x (natI ns) bs
  du : DuesAt ns L ps H
theorem Bse.same {C w x L : Addr} {ns : List Nat} {bs : List (List Int)} {ps : List Addr} {H H' : Hp} (b : Bse C w x L ns bs ps H) (s : Same H H') : Bse C w x L ns bs ps H' := ⟨b.well.same s, b.tk.same s, b.du.same s⟩
theorem Bse.upw {C w x L : Addr} {ns : List Nat} {bs : List (List Int)} {ps : List Addr} {H : Hp} {c0 c1 c2 : Int} (b : Bse C w x L ns bs ps H) (h : w ≠ L) : Bse C w x L ns bs ps (upd H w (.lst [.int c0, .int c1, .int c2])) := by
  have u : But w H (upd H w (.lst [.int c0, .int c1, .int c2])) := .upd
  exact ⟨.upw, b.tk.but u b.well, ⟨u _ _ (Ne.symm h) b.du.at_, fun n p q => u.tup b.well _ _ (b.du.it n p q)⟩⟩
theorem nat_of {ls : List Int} (h : ∀ l ∈ ls, 1 ≤ l ∧ l ≤ 20) : ∃ ns : List Nat, ls = natI ns ∧ ns.length = ls.length ∧ ∀ n ∈ ns, 1 ≤ n ∧ n ≤ 20 := by
  induction ls with
  | nil => exact ⟨[], rfl, rfl, fun _ z => nomatch z⟩
  | cons l ls ih =>
    obtain ⟨ns, e1, e2, e3⟩ := ih fun x hx => h x (List.mem_cons_of_mem _ hx)
    obtain ⟨h1, h2⟩ := h l List.mem_cons_self
    refine ⟨l.toNat :: ns, ?_, by rw [List.length_cons, List.length_cons, e2], fun n hn => ?_⟩
    · rw [e1]
      show l :: natI ns = ((l.toNat : Nat) : Int) :: natI ns
      rw [show ((l.toNat : Nat) : Int) = l by omega]
    · rcases List.mem_cons.mp hn with rfl | hn
      · omega
      · exact e3 n hn
theorem spot_le : ∀ (ns : List Nat) (b : Nat), (spot ns b).1 ≤ ns.length ∧ (spot ns b).2 ≤ b
  | [], b => ⟨Nat.le_refl _, Nat.le_refl _⟩
  | n :: ns, b => by
    have ih := spot_le ns (b - n)
    unfold spot
    by_cases c : b < n
    · rw [if_pos c]
      exact ⟨Nat.zero_le _, Nat.le_refl _⟩
    · rw [if_neg c, List.length_cons]
      exact ⟨by omega, by omega⟩
def dSpot (ns : List Nat) (b : Nat) : PyData := .tuple [.int ((spot ns b).1 : Nat), .int ((spot ns b).2 : Nat)]
theorem spot_sml {ns : List Nat} {b : Nat} (h1 : ns.length ≤ 12) (h2 : b < 1000) : Sml 1 82 (dSpot ns b) :=
  Sml.tup (m := 0) (n := 40) (k := 2) (fun x hx => by
    have := spot_le ns b
    rcases List.mem_cons.mp hx with rfl | hx
    · exact Sml.int (by omega)
    · rw [List.mem_singleton.mp hx]; exact Sml.int (by omega)) (Nat.le_refl _)
theorem spot_dp {K : PySem.W.Frag} {H : Hp} {p : Addr} {ns : List Nat} {b : Nat} (h : H p = some (.tup [.int ((spot ns b).1 : Nat), .int ((spot ns b).2 : Nat)])) : Dp K H (.ref p) (dSpot ns b) := .tup (SqT.of h) (.cons (.int _) (.cons (.int _) .nil))
theorem shw_int {i : Int} (h : i.natAbs < 2 ^ 200) : Shw (.int i) := by
  have l := log_lt (by decide) h
  refine ⟨by simpa only [PyData.showable] using decide_eq_true (Nat.lt_trans l (by decide)), rfl, Nat.zero_le _, ?_⟩
  have q := int_text_length_le (a := i) (k := 200) (by decide) l
  have e : sizeLine = 16777216 := sizeLine_eq
  show (PyData.int i).shown.length ≤ _
  simp only [PyData.shown, PySem.ofString_length]
  omega
theorem shw_num {i : Int} (h : i.natAbs < 2 ^ 30) : Shw (.str (toString i)) := by
  have l := log_lt (by decide) h
  have q := int_text_length_le (a := i) (k := 30) (by decide) l
  have e : sizeLine = 16777216 := sizeLine_eq
  refine ⟨by simp only [PyData.showable], rfl, Nat.zero_le _, ?_⟩
  have r := StrLaws.reprText_len (Str.ofString (toString i)) (fun c hc => by
    by_cases z : c < 16 ^ 8
    · exact z
    · exact absurd hc (int_text_free' c ⟨by omega, by omega⟩ i))
  rw [PySem.ofString_length] at r
  show (reprText _).length ≤ _
  omega
theorem two_ints {ns : List Nat} {m b : Nat} (h : b < m) : ∃ n : Nat, (V.int (b : Nat)) = .int (n : Nat) ∧ n < m := ⟨b, rfl, h⟩
section
variable {P : Program} {w : World} {K : PySem.W.Frag} {mg : Str → Option Value} {base : Heap} {C fI fL fR fP fW fT fK fU fD : Addr} {fdI fdW fdT fdK fdP fdD : FuncData} {fQ : Addr}
theorem ok_law {f : Addr} {fd : FuncData} (F : Fun K "law" "law" sLaw f fd) (T : TkD K C fI fL fR fQ) (B : Bi mg) (mC : mg "Talk" = some (.ref C)) (mR : mg "repr" = none) (mMin : mg "min" = none) (mMax : mg "max" = none) (mL : mg "list" = none) (mStr : mg "str" = none)
    (FW : Fun K "_law_well" "_law_well" sWell fW fdW) (mW : mg "_law_well" = some (.ref fW)) (bW : L2.Binds K fdW ["_law_script", "_law_k"] [])
    (FT : Fun K "_law_take" "_law_take" sTake fT fdT) (mT : mg "_law_take" = some (.ref fT)) (bT : L2.Binds K fdT ["_law_well_here", "_law_top"] [])
    (FK : Fun K "_law_talk" "_law_talk" sTalk fK fdK) (mK : mg "_law_talk" = some (.ref fK)) (bK : L2.Binds K fdK ["_law_well_here"] [])
    (FI : Fun K "__init__" "Talk.__init__" sInit fI fdI) (bI : L2.Binds K fdI ["self", "lengths", "sizes"] [])
    (FP : Fun K "_law_places" "_law_places" sPlaces fP fdP) (mP : mg "_law_places" = some (.ref fP)) (bP : L2.Binds K fdP ["_law_lengths"] [])
    (FD : Fun K "_law_told" "_law_told" sTold fD fdD) (GD : FnG P w K mg base CX0 4 fD fdD ["_law_talk_here", "_law_thing"] (spTold K C)) (mD : mg "_law_told" = some (.ref fD)) (bD : L2.Binds K fdD ["_law_talk_here", "_law_thing"] []) : FnG P w K mg base CX0 5 f fd ["_law_script"] (spLaw K) := by
  have GW : FnOk P w K mg base CX0 1 fW fdW ["_law_script", "_law_k"] (spWell K) := ok_well FW B
  have GT : FnOk P w K mg base CX0 1 fT fdT ["_law_well_here", "_law_top"] spTake := ok_take FT
  have GK : FnOk P w K mg base CX0 2 fK fdK ["_law_well_here"] spTalk := ok_talk FK B FT mT bT
  have GI : FnOk P w K mg base CX0 1 fI fdI ["self", "lengths", "sizes"] (spInit C) := ok_init FI T.toTkB
  have GP : FnOk P w K mg base CX0 1 fP fdP ["_law_lengths"] spPlaces := ok_places FP B
  refine okG F scLaw (fun vs H Q E h => ?_) (fun cdv A outer s H0 vs Q E gA hr h => ?_)
  · obtain ⟨_, _, rfl, _⟩ := h
    rfl
  · have nd := scLaw.nd
    have hr1 : Room 1 _ := hr.mono (by decide)
    have hr2 : Room 2 _ := hr.mono (by decide)
    refine ⟨_, pss_cons (ps_for PassesOwn.never rfl (pi_range1 (by rfl) B.range (pa_cons (pe_callB (call_max2 rfl) (by rfl) mMax (by decide +kernel) (pa_cons (pe_int) (pa_cons (pe_callB (call_min2 rfl) (by rfl) mMin (by decide +kernel) (pa_cons (pe_callB call_len_seq (by rfl) B.len PySem.boot_len (pa_cons (pv 0) pa_nil)) (pa_cons (pe_int) pa_nil))) pa_nil))) pa_nil)) (pg_name (i := 1) nd rfl (Or.inl rfl)) (pss_cons (ps_set (i := 2) nd rfl (Or.inl rfl) (pe_call GW hr1 (by rfl) mW FW.kp bW .nil pass0 (pa_cons (pv 0) (pa_cons (pv 1) pa_nil))))
      (pss_cons (ps_set (i := 3) nd rfl (Or.inl rfl) (pe_call GK hr2 (by rfl) mK FK.kp bK .nil pass0 (pa_cons (pv 2) pa_nil)))
      (pss_cons (ps_set (i := 4) nd rfl (Or.inl rfl) (pe_make T.make GI hr2 (by rfl) mC bI .nil pass0 (pa_cons (pe_ix ix_tup (pv 3) (pe_int) (fun _ _ => rfl)) (pa_cons (pe_ix ix_tup (pv 3) (pe_int) (fun _ _ => rfl)) pa_nil))))
      (pss_cons (ps_set (i := 5) nd rfl (Or.inl rfl) (pe_call GP hr1 (by rfl) mP FP.kp bP .nil pass0 (pa_cons (pe_ix ix_tup (pv 3) (pe_int) (fun _ _ => rfl)) pa_nil)))
      (pss_cons (ps_set (i := 6) nd rfl (Or.inr rfl) (pe_callB call_len_seq (by rfl) B.len PySem.boot_len (pa_cons (pv 5) pa_nil)))
      (pss_cons (ps_set (i := 7) nd rfl (Or.inr rfl) (pe_call GT hr1 (by rfl) mT FT.kp bT .nil pass0 (pa_cons (pv 2) (pa_cons (pv 6) pa_nil))))
      (pss_cons (ps_set (i := 8) nd rfl (Or.inr rfl) (pe_ix ix_list (pe_lst (pa_cons (pe_int) (pa_cons (pe_int) (pa_cons (pe_int) (pa_cons (pe_int) pa_nil))))) (pe_call GT hr1 (by rfl) mT FT.kp bT .nil pass0 (pa_cons (pv 2) (pa_cons (pe_int) pa_nil))) (fun _ _ => rfl)))
      (pss_cons (ps_setLc (i := 9) (own := [("_law_at", 13)]) (g := gName 13) (tt := tYes) rfl nd rfl rfl (sw_true rfl rfl rfl rfl) (pi_range1 (by rfl) B.range (pa_cons (pv 6) pa_nil)) (blkOk_by (own := [("_law_at", 13)]) (N := ["_law_script", "_law_k", "_law_well_here", "_law_row", "_law_talk_here", "_law_dues", "_law_many", "_law_first", "_law_step", "_law_order", "_law_beat", "_law_some", "_law_thing", "_law_at"]) (sc := defScope sLaw) (by decide +kernel)) (fun _ _ _ _ _ => pg_name (i := 13) nd rfl (Or.inl rfl)) (fun _ _ _ _ _ => pts_nil) (fun _ _ _ _ _ => pe_op op_mod (pe_op op_add (pv 7) (pe_op op_mul (pv 8) (pv 13))) (pv 6)))
      (pss_cons (ps_for PassesOwn.never rfl (pi_list (pe_op op_cat (pv 9) (pe_listRg rfl (by rfl) mL (prg_1 (by rfl) B.range (pv 6))))) (pg_name (i := 10) nd rfl (Or.inl rfl)) (pss_one (ps_if (pt_cmpR op_ne (pe_callB (call_reprD gA hr.units) (by rfl) mR boot_repr (pa_cons (pe_callG GD gA hr (by rfl) mD FD.kp bD pass0 (pa_cons (pv 4) (pa_cons (pv 10) pa_nil))) pa_nil)) (pe_callB (call_reprD gA hr.units) (by rfl) mR boot_repr (pa_cons (pe_ix ix_list (pv 5) (pv 10) (fun _ _ => rfl)) pa_nil)) (nomark _)) (pss_one (ps_ret (pe_bl))) (pss_nil))))
      (pss_cons (ps_set (i := 11) nd rfl (Or.inl rfl) (pe_lst (pa_cons (pe_un un_neg (pe_int)) (pa_cons (pv 6) (pa_cons (pe_op op_add (pv 6) (pe_call GT hr1 (by rfl) mT FT.kp bT .nil pass0 (pa_cons (pv 2) (pa_cons (pe_int) pa_nil)))) (pa_cons (pe_op op_sub (pe_int) (pv 6)) (pa_cons (pe_op op_pow (pe_int) (pe_int)) (pa_cons (pe_op op_sub (pe_int) (pe_op op_pow (pe_int) (pe_int))) (pa_cons (pe_bl) (pa_cons (pe_bl) (pa_cons (pe_non) (pa_cons (pe_str) pa_nil))))))))))))
      (pss_one (ps_for PassesOwn.never rfl (pi_list (pe_op op_cat (pv 11) (pe_lst (pa_cons (pe_str) (pa_cons (pe_tup (pa_cons (pe_int) pa_nil)) (pa_cons (pe_lst (pa_cons (pe_int) pa_nil)) (pa_cons (pe_dnewK) (pa_cons (pe_disp (pps_cons (pe_int) (pe_int) (pps_nil)) (by rfl) (by rfl) (by decide) (by decide)) (pa_cons (pe_tup (pa_nil)) (pa_cons (pv 4) (pa_cons (pe_lst (pa_nil)) (pa_cons (pe_callTy call_str_int (by rfl) mStr boot_str (pa_cons (pv 7) pa_nil)) pa_nil)))))))))))) (pg_name (i := 12) nd rfl (Or.inl rfl)) (pss_one (ps_if (PW.pt (pw_or (pt_cmpR op_ne (pe_callG GD gA hr (by rfl) mD FD.kp bD pass0 (pa_cons (pv 4) (pa_cons (pv 12) pa_nil))) (pe_str) (nomark _)) (pw_or1 (pt_cmpR (op_neD hr.units) (pe_callG GD gA hr (by rfl) mD FD.kp bD pass0 (pa_cons (pv 4) (pa_cons (pv 7) pa_nil))) (pe_ix ix_list (pv 5) (pv 7) (fun _ _ => rfl)) (nomark _))))) (pss_one (ps_ret (pe_bl))) (pss_nil))))))))))))))))
    (pss_one (ps_ret (pe_bl))), ?_⟩
    obtain ⟨a, ks, rfl, ha, k⟩ := h
    refine ⟨_, rfl, a, _, rfl, .inl ha, _, _, rfl, _, _, rfl, ?_⟩
    rw [List.length_map]
    obtain ⟨N, hN, hN4⟩ : ∃ N : Nat, (if (if (4 : Int) < (ks.length : Nat) then (4 : Int) else (ks.length : Nat)) > 1 then (if (4 : Int) < (ks.length : Nat) then (4 : Int) else (ks.length : Nat)) else 1) = (N : Int) ∧ N ≤ 4 := by
      by_cases c : (4 : Int) < (ks.length : Nat)
      · rw [if_pos c]
        exact ⟨4, rfl, by decide⟩
      · rw [if_neg c]
        by_cases e : ((ks.length : Nat) : Int) > 1
        · rw [if_pos e]
          exact ⟨ks.length, rfl, by omega⟩
        · rw [if_neg e]
          exact ⟨1, rfl, by decide⟩
    rw [hN]
    refine ⟨_, rfl, (by omega), (by omega), for_range (lo := 0) (n := N) (fun i σ H => ∃ v1 v2 v3 v4 v5 v6 v7 v8 v9 v10 v11 v12 v13, σ = [some (.ref a), v1, v2, v3, v4, v5, v6, v7, v8, v9, v10, v11, v12, v13] ∧ Same H0 H) ⟨none, none, none, none, none, none, none, none, none, none, none, none, none, rfl, Same.refl _⟩ ?_ ?_⟩
    · rintro i σ H hi ⟨v1, v2, v3, v4, v5, v6, v7, v8, v9, v10, v11, v12, v13, rfl, sH⟩
      refine ⟨_, rfl, _, rfl, a, ks, i, (by show [V.ref a, V.int (0 + (i : Int))] = [V.ref a, V.int (i : Nat)]; rw [Int.zero_add]), Same.seq sH ha, fun w c0 c1 c2 hw => ?_⟩
      have s1 := Same.upd (o := .lst [.int c0, .int c1, .int c2]) hw
      have w1 : Well (upd H w (.lst [.int c0, .int c1, .int c2])) w := .upw
      generalize upd H w (.lst [.int c0, .int c1, .int c2]) = H1 at s1 w1 ⊢
      refine ⟨_, rfl, w, rfl, w1, fun H2 p ls bs bt2 w2 row fine => ?_⟩
      have s2 := same_of_but hw s1 bt2
      obtain ⟨ra, rb, rqs, g1, g2, g3, g4⟩ := id row
      refine ⟨_, rfl, p, _, 0, _, rfl, rfl, SqT.of g1, at_of (j := 0) rfl rfl, _, rfl, p, _, 1, _, rfl, rfl, SqT.of g1, at_of (j := 1) rfl rfl, ?_⟩
      refine fun x dx nx ndx ne => made_talk nx ndx ne fun H3 s3 ⟨dx, hx⟩ => ⟨rfl, ?_⟩
      have tk3 : TalkAt C H3 x ls bs := ⟨dx, ra, rb, rqs, hx, s3 _ _ g2, s3 _ _ g3, g4.imp fun _ _ e => s3 _ _ e⟩
      have lo := fine.low
      have lor := fine.lowR
      obtain ⟨ns, rfl, nlen, nbd⟩ := nat_of fine.ls
      have n12 : ns.length ≤ 12 := by rw [nlen]; exact fine.most
      have n20 : ∀ l ∈ ns, l ≤ 20 := fun l hl => (nbd l hl).2
      have sum1 : 1 ≤ ns.sum := by
        have := fine.pos
        rw [← nlen] at this
        cases ns with
        | nil => simp at this
        | cons n ns =>
          have := (nbd n List.mem_cons_self).1
          rw [List.sum_cons]
          omega
      have sum2 := sum_le n12 n20
      refine ⟨_, rfl, p, _, 0, _, rfl, rfl, SqT.of (s3 _ _ g1), at_of (j := 0) rfl rfl, ra, ns, rfl, s3 _ _ g2, n12, n20, fun H4 L ps s4 hL du el => ?_⟩
      have w3 := w2.same s3
      have wL : w ≠ L := by obtain ⟨_, _, _, e⟩ := w3; exact ne_of_none e hL
      have b4 : Bse C w x L ns bs ps H4 := ⟨w3.same s4, tk3.same s4, du⟩
      have s04 : Same H H4 := (s2.trans s3).trans s4
      refine ⟨_, rfl, L, _, rfl, .inl (SqL.of du.at_), ?_⟩
      rw [List.length_map, el]
      -- first
      obtain ⟨z0, z1, z2, hz⟩ := id b4.well
      refine ⟨_, rfl, _, rfl, w, z0, z1, z2, _, rfl, hz, (by show (1 : Int) ≤ (ns.sum : Nat); omega), (by show ((ns.sum : Nat) : Int) < 1000000; omega), fun d1 y0 y2 d10 d1n => ?_⟩
      have b5 := b4.upw (c0 := y0) (c1 := z1) (c2 := y2) wL
      have s05 := same_of_but hw s04 (.upd (o := .lst [.int y0, .int z1, .int y2]))
      generalize upd H4 w (.lst [.int y0, .int z1, .int y2]) = H5 at b5 s05 ⊢
      obtain ⟨first, rfl, hf⟩ : ∃ n : Nat, d1 = (n : Int) ∧ n < ns.sum := ⟨d1.toNat, by omega, by omega⟩
      -- step
      refine ⟨(by show 4 ≤ sizeLine; decide), fun q hq => ?_⟩
      have wq : w ≠ q := by obtain ⟨_, _, _, e⟩ := b5.well; exact ne_of_none e hq
      have s6 := Same.upd (o := .lst [.int 1, .int 7, .int 11, .int 13]) hq
      have at6 := new_at (o := .lst [.int 1, .int 7, .int 11, .int 13]) hq
      have b6 := b5.same s6
      have s06 := s05.trans s6
      generalize upd H5 q (.lst [.int 1, .int 7, .int 11, .int 13]) = H6 at b6 s06 at6 ⊢
      clear s6 hq
      obtain ⟨z0, z1, z2, hz⟩ := id b6.well
      refine ⟨_, rfl, w, z0, z1, z2, _, rfl, hz, (by decide), (by decide), fun d2 y0 y2 d20 d24 => ?_⟩
      have b7 := b6.upw (c0 := y0) (c1 := z1) (c2 := y2) wL
      have bt7 : But w H6 (upd H6 w (.lst [.int y0, .int z1, .int y2])) := .upd
      have s07 := same_of_but hw s06 bt7
      have at7 := bt7 _ _ (Ne.symm wq) at6
      generalize upd H6 w (.lst [.int y0, .int z1, .int y2]) = H7 at b7 s07 at7 ⊢
      clear bt7 at6
      obtain ⟨step, hv, hvv⟩ := four_at 1 7 11 13 d2 d20 d24
      refine ⟨q, _, d2, _, rfl, rfl, SqL.of at7, hv, ?_⟩
      have hstep : 0 < step ∧ step < 14 := by omega
      -- order
      refine ⟨_, rfl, _, rfl, (by omega), (by omega), fun D hD => lc_range (lo := 0) (n := ns.sum) (fun m H => ∃ acc, H D = some (.lst acc) ∧ acc.length = m ∧ (∀ y ∈ acc, ∃ n : Nat, y = .int (n : Nat) ∧ n < ns.sum) ∧ Same H7 H) ⟨[], upd_same, rfl, (fun _ z => nomatch z), Same.upd hD⟩ ?_ ?_⟩
      · rintro m H hm ⟨acc, e1, e2, e3, sD⟩
        refine ⟨rfl, ?_⟩
        refine ⟨_, rfl, _, rfl, _, rfl, _, _, rfl, rfl, .inl ⟨by omega, by omega⟩, _, _, rfl, rfl, _, rfl, _, _, rfl, rfl, (by omega), acc, e1, (by rw [e2, sizeLine_eq]; omega), ?_⟩
        have p0 := Int.emod_nonneg ((first : Int) + step * (0 + (m : Int))) (show ((ns.sum : Nat) : Int) ≠ 0 by omega)
        have p1 := Int.emod_lt_of_pos ((first : Int) + step * (0 + (m : Int))) (show (0 : Int) < ((ns.sum : Nat) : Int) by omega)
        refine ⟨_, upd_same, by rw [List.length_append, e2]; rfl, fun y hy => ?_, fun b o z => ?_⟩
        · rcases List.mem_append.mp hy with hy | hy
          · exact e3 y hy
          · rw [List.mem_singleton.mp hy]
            exact ⟨(((first : Int) + step * (0 + (m : Int))) % ((ns.sum : Nat) : Int)).toNat, by rw [Int.toNat_of_nonneg p0], by omega⟩
        · rw [upd_ne (ne_of_none z hD)]
          exact sD _ _ z
      rintro H8 ⟨acc, e1, e2, e3, sD⟩
      have b8 := b7.same sD
      have s08 := s07.trans sD
      clear b4 b5 b6 b7 s04 s05 s06 s07 sD
      refine ⟨_, rfl, _, rfl, _, rfl, RgOk.of_le (by omega) (by omega) (by omega) (by omega), fun q2 hq2 => ?_⟩
      have sq := Same.upd (o := .lst (rgV 0 ((ns.sum : Nat) : Int))) hq2
      refine ⟨D, q2, acc, _, rfl, rfl, sq _ _ e1, new_at hq2, (by rw [rgV_length, e2, sizeLine_eq]; omega), fun R hR => ?_⟩
      have sR := Same.upd (o := .lst (acc ++ rgV 0 ((ns.sum : Nat) : Int))) hR
      have eR := new_at (o := .lst (acc ++ rgV 0 ((ns.sum : Nat) : Int))) hR
      have s89 := sq.trans sR
      refine ⟨R, rfl, ⟨_, SqL.of eR⟩, ?_⟩
      have items : ∀ (m : Nat) (y : V), (acc ++ rgV 0 ((ns.sum : Nat) : Int))[m]? = some y → ∃ n : Nat, y = .int (n : Nat) ∧ n < ns.sum := by
        intro m y hy
        rcases List.mem_append.mp (List.mem_of_getElem? hy) with h | h
        · exact e3 y h
        · unfold rgV at h
          obtain ⟨n, hn, rfl⟩ := List.mem_map.mp h
          have := List.mem_range.mp hn
          refine ⟨n, by rw [Int.zero_add], by omega⟩
      generalize acc ++ rgV 0 ((ns.sum : Nat) : Int) = its at eR items s89 ⊢
      generalize upd (upd H8 q2 (.lst (rgV 0 ((ns.sum : Nat) : Int)))) R (.lst its) = H9 at eR s89 ⊢
      have b9 := b8.same s89
      have s09 := s08.trans s89
      clear b8 s08 s89
      refine for_list (K := K) (a := R) (xs := its) (fun m σ H => ∃ v10 v11 v12 v13, σ = [some (.ref a), some (.int (0 + (i : Int))), some (.ref w), some (.ref p), some (.ref x), some (.ref L), some (.int ((ns.sum : Nat) : Int)), some (.int (first : Nat)), some (.int step), some (.ref D), v10, v11, v12, v13] ∧ Same H9 H) ⟨_, _, _, _, rfl, Same.refl _⟩ (fun m σ H _ ⟨_, _, _, _, _, sl⟩ => SqL.of (sl _ _ eR)) ?_ ?_
      · rintro m y σ H hy ⟨v10, v11, v12, v13, rfl, sl⟩
        obtain ⟨n, rfl, hn⟩ := items m y hy
        obtain ⟨pn, hpn⟩ : ∃ q, ps[n]? = some q := ⟨_, List.getElem?_eq_getElem (by omega)⟩
        have bH := b9.same sl
        refine ⟨_, rfl, _, rfl, x, ns, bs, _, rfl, bH.tk, (by omega), .inl ⟨n, rfl, hn, fun H' p' s' hp' => ?_⟩⟩
        refine ⟨_, dSpot ns n, rfl, spot_dp hp', (spot_sml n12 (by omega)).shw (by decide) (by decide), ?_⟩
        have bH' := bH.same s'
        refine ⟨_, rfl, _, rfl, L, _, n, _, rfl, rfl, SqL.of bH'.du.at_, atI_nat (by rw [List.getElem?_map, hpn]; rfl), _, dSpot ns n, rfl, spot_dp (bH'.du.it n pn hpn), (spot_sml n12 (by omega)).shw (by decide) (by decide), rfl, _, rfl, iteNS rfl ?_⟩
        exact ⟨_, _, _, _, rfl, sl.trans s'⟩
      rintro σ H ⟨v10, v11, v12, v13, rfl, sl⟩
      have bA := b9.same sl
      have s0A := s09.trans sl
      clear b9 s09 sl eR items
      -- the odd things
      obtain ⟨z0, z1, z2, hz⟩ := id bA.well
      refine ⟨_, rfl, _, rfl, _, rfl, _, rfl, w, z0, z1, z2, _, rfl, hz, (by decide), (by decide), fun d3 y0 y2 d30 d40 => ?_⟩
      have bB := bA.upw (c0 := y0) (c1 := z1) (c2 := y2) wL
      have s0B := same_of_but hw s0A (.upd (o := .lst [.int y0, .int z1, .int y2]))
      generalize upd H w (.lst [.int y0, .int z1, .int y2]) = HB at bB s0B ⊢
      clear bA s0A
      refine ⟨_, _, rfl, rfl, _, rfl, _, _, rfl, rfl, _, _, rfl, rfl, ⟨by decide, by decide, by decide⟩, _, _, rfl, rfl, ⟨by decide, by decide, by decide⟩, _, _, rfl, rfl, (by show 10 ≤ sizeLine; decide), fun S hS => ?_⟩
      have sC := Same.upd (o := .lst [.int (-1), .int ((ns.sum : Nat) : Int), .int (((ns.sum : Nat) : Int) + d3), .int (0 - ((ns.sum : Nat) : Int)), .int (10 ^ Int.toNat 39), .int (0 - 10 ^ Int.toNat 39), .bl true, .bl false, .non, .str ("0" : Str)]) hS
      have eS := new_at (o := .lst [.int (-1), .int ((ns.sum : Nat) : Int), .int (((ns.sum : Nat) : Int) + d3), .int (0 - ((ns.sum : Nat) : Int)), .int (10 ^ Int.toNat 39), .int (0 - 10 ^ Int.toNat 39), .bl true, .bl false, .non, .str ("0" : Str)]) hS
      generalize upd HB S (.lst [.int (-1), .int ((ns.sum : Nat) : Int), .int (((ns.sum : Nat) : Int) + d3), .int (0 - ((ns.sum : Nat) : Int)), .int (10 ^ Int.toNat 39), .int (0 - 10 ^ Int.toNat 39), .bl true, .bl false, .non, .str ("0" : Str)]) = HC at sC eS ⊢
      refine ⟨_, rfl, (by show 1 ≤ sizeLine; decide), fun t1 ht1 => ?_⟩
      have sD := Same.upd (o := .tup [.int 0]) ht1
      have et1 := new_at (o := .tup [.int 0]) ht1
      generalize upd HC t1 (.tup [.int 0]) = HD at sD et1 ⊢
      refine ⟨(by show 1 ≤ sizeLine; decide), fun l1 hl1 => ?_⟩
      have sE := Same.upd (o := .lst [.int 0]) hl1
      have el1 := new_at (o := .lst [.int 0]) hl1
      generalize upd HD l1 (.lst [.int 0]) = HE at sE el1 ⊢
      refine fun d1 hd1 => ?_
      have sF := Same.upd (o := .dK []) hd1
      have ed1 := new_at (o := .dK []) hd1
      generalize upd HE d1 (.dK []) = HF at sF ed1 ⊢
      refine fun d2 hd2 => ⟨upd_same, [(.inl 0, .int 0)], rfl, (by decide), ?_⟩
      have sG : Same HF (upd (upd HF d2 (.dK [])) d2 (.dK (mergeK [] [(.inl 0, .int 0)]))) := by rw [upd_upd]; exact Same.upd hd2
      have ed2 : upd (upd HF d2 (.dK [])) d2 (.dK (mergeK [] [(.inl 0, .int 0)])) d2 = some (.dK [(.inl 0, .int 0)]) := upd_same
      generalize upd (upd HF d2 (.dK [])) d2 (.dK (mergeK [] [(.inl 0, .int 0)])) = HG at sG ed2 ⊢
      refine ⟨Nat.zero_le _, fun t2 ht2 => ?_⟩
      have sI := Same.upd (o := .tup []) ht2
      have et2 := new_at (o := .tup []) ht2
      generalize upd HG t2 (.tup []) = HI at sI et2 ⊢
      refine ⟨_, rfl, Nat.zero_le _, fun l2 hl2 => ?_⟩
      have sJ := Same.upd (o := .lst []) hl2
      have el2 := new_at (o := .lst []) hl2
      generalize upd HI l2 (.lst []) = HJ at sJ el2 ⊢
      refine ⟨_, rfl, first, rfl, (Nat.lt_trans (log_lt (k := 30) (by decide) (by omega)) (by decide)), (by show 9 ≤ sizeLine; decide), fun M hM => ?_⟩
      have sK := Same.upd (o := .lst [.str ("" : Str), .ref t1, .ref l1, .ref d1, .ref d2, .ref t2, .ref x, .ref l2, .str ((toString (first : Int) : String) : Str)]) hM
      have eM := new_at (o := .lst [.str ("" : Str), .ref t1, .ref l1, .ref d1, .ref d2, .ref t2, .ref x, .ref l2, .str ((toString (first : Int) : String) : Str)]) hM
      generalize upd HJ M (.lst [.str ("" : Str), .ref t1, .ref l1, .ref d1, .ref d2, .ref t2, .ref x, .ref l2, .str ((toString (first : Int) : String) : Str)]) = HK at sK eM ⊢
      have sSM := ((((((sD.trans sE).trans sF).trans sG).trans sI).trans sJ).trans sK)
      refine ⟨S, M, _, _, rfl, rfl, sSM _ _ eS, eM, (by show 19 ≤ sizeLine; decide), fun R hR => ⟨R, rfl, ?_⟩⟩
      have sR := Same.upd (o := .lst ([.int (-1), .int ((ns.sum : Nat) : Int), .int (((ns.sum : Nat) : Int) + d3), .int (0 - ((ns.sum : Nat) : Int)), .int (10 ^ Int.toNat 39), .int (0 - 10 ^ Int.toNat 39), .bl true, .bl false, .non, .str ("0" : Str)] ++ [.str ("" : Str), .ref t1, .ref l1, .ref d1, .ref d2, .ref t2, .ref x, .ref l2, .str ((toString (first : Int) : String) : Str)])) hR
      have eR := new_at (o := .lst ([.int (-1), .int ((ns.sum : Nat) : Int), .int (((ns.sum : Nat) : Int) + d3), .int (0 - ((ns.sum : Nat) : Int)), .int (10 ^ Int.toNat 39), .int (0 - 10 ^ Int.toNat 39), .bl true, .bl false, .non, .str ("0" : Str)] ++ [.str ("" : Str), .ref t1, .ref l1, .ref d1, .ref d2, .ref t2, .ref x, .ref l2, .str ((toString (first : Int) : String) : Str)])) hR
      generalize upd HK R (.lst ([.int (-1), .int ((ns.sum : Nat) : Int), .int (((ns.sum : Nat) : Int) + d3), .int (0 - ((ns.sum : Nat) : Int)), .int (10 ^ Int.toNat 39), .int (0 - 10 ^ Int.toNat 39), .bl true, .bl false, .non, .str ("0" : Str)] ++ [.str ("" : Str), .ref t1, .ref l1, .ref d1, .ref d2, .ref t2, .ref x, .ref l2, .str ((toString (first : Int) : String) : Str)])) = HL at sR eR ⊢
      have bL := bB.same ((sC.trans sSM).trans sR)
      have s0L := s0B.trans ((sC.trans sSM).trans sR)
      replace et1 := sR _ _ (sK _ _ (sJ _ _ (sI _ _ (sG _ _ (sF _ _ (sE _ _ et1))))))
      replace el1 := sR _ _ (sK _ _ (sJ _ _ (sI _ _ (sG _ _ (sF _ _ el1)))))
      replace ed1 := sR _ _ (sK _ _ (sJ _ _ (sI _ _ (sG _ _ ed1))))
      replace ed2 := sR _ _ (sK _ _ (sJ _ _ (sI _ _ ed2)))
      replace et2 := sR _ _ (sK _ _ (sJ _ _ et2))
      replace el2 := sR _ _ (sK _ _ el2)
      have big : (10 : Int) ^ Int.toNat 39 = 1000000000000000000000000000000000000000 := by decide +kernel
      have things : ∀ y ∈ ([.int (-1), .int ((ns.sum : Nat) : Int), .int (((ns.sum : Nat) : Int) + d3), .int (0 - ((ns.sum : Nat) : Int)), .int (10 ^ Int.toNat 39), .int (0 - 10 ^ Int.toNat 39), .bl true, .bl false, .non, .str ("0" : Str)] ++ [.str ("" : Str), .ref t1, .ref l1, .ref d1, .ref d2, .ref t2, .ref x, .ref l2, .str ((toString (first : Int) : String) : Str)] : List V), Odd C HL ns.sum y ∧ ∃ t, Thing K C HL y t := by
        intro y hy
        simp only [List.mem_append, List.mem_cons, List.not_mem_nil, or_false] at hy
        rcases hy with (rfl | rfl | rfl | rfl | rfl | rfl | rfl | rfl | rfl | rfl) | (rfl | rfl | rfl | rfl | rfl | rfl | rfl | rfl | rfl)
        · exact ⟨.far (.inl (by decide)), _, .dat (.int _) (shw_int (by decide +kernel))⟩
        · exact ⟨.far (.inr (by omega)), _, .dat (.int _) (shw_int (Nat.lt_trans (show ((ns.sum : Nat) : Int).natAbs < 2 ^ 30 by omega) (by decide +kernel)))⟩
        · exact ⟨.far (.inr (by omega)), _, .dat (.int _) (shw_int (Nat.lt_trans (show (((ns.sum : Nat) : Int) + d3).natAbs < 2 ^ 30 by omega) (by decide +kernel)))⟩
        · exact ⟨.far (.inl (by omega)), _, .dat (.int _) (shw_int (Nat.lt_trans (show (0 - ((ns.sum : Nat) : Int)).natAbs < 2 ^ 30 by omega) (by decide +kernel)))⟩
        · rw [big]
          exact ⟨.far (.inr (by omega)), _, .dat (.int _) (shw_int (by decide +kernel))⟩
        · rw [big]
          exact ⟨.far (.inl (by decide +kernel)), _, .dat (.int _) (shw_int (by decide +kernel))⟩
        · exact ⟨.bl _, _, .dat (.bl _) (Sml.bool.shw (by decide) (by decide))⟩
        · exact ⟨.bl _, _, .dat (.bl _) (Sml.bool.shw (by decide) (by decide))⟩
        · exact ⟨.non, _, .dat .non (Sml.none.shw (by decide) (by decide))⟩
        · exact ⟨.str _, _, .dat (.str _) ((Sml.str (n := 5) (by decide +kernel) (by decide +kernel)).shw (by decide) (by decide))⟩
        · exact ⟨.str _, _, .dat (.str _) ((Sml.str (n := 5) (by decide +kernel) (by decide +kernel)).shw (by decide) (by decide))⟩
        · exact ⟨.tup et1, _, .dat (.tup (SqT.of et1) (.cons (.int 0) .nil)) ((Sml.tup (m := 0) (n := 40) (k := 1) (fun z hz => by rw [List.mem_singleton.mp hz]; exact Sml.int (by decide)) (Nat.le_refl _)).shw (by decide) (by decide))⟩
        · exact ⟨.lst el1, _, .dat (.lst (SqL.of el1) (.cons (.int 0) .nil)) ((Sml.lst (m := 0) (n := 40) (k := 1) (fun z hz => by rw [List.mem_singleton.mp hz]; exact Sml.int (by decide)) (Nat.le_refl _)).shw (by decide) (by decide))⟩
        · exact ⟨.dK ed1, _, .dict ⟨d1, [], rfl, ed1, rfl⟩ (by decide +kernel) (by decide +kernel) (by decide +kernel)⟩
        · exact ⟨.dK ed2, _, .dict ⟨d2, [(0, 0)], rfl, ed2, rfl⟩ (by decide +kernel) (by decide +kernel) (by decide +kernel)⟩
        · exact ⟨.tup et2, _, .dat (.tup (SqT.of et2) .nil) ((Sml.tup (xs := []) (m := 0) (n := 40) (k := 1) (fun z hz => absurd hz List.not_mem_nil) (Nat.zero_le _)).shw (by decide) (by decide))⟩
        · obtain ⟨dy, _, _, _, hy, _⟩ := id bL.tk
          exact ⟨.ins hy, _, .talk bL.tk lo lor⟩
        · exact ⟨.lst el2, _, .dat (.lst (SqL.of el2) .nil) ((Sml.lst (xs := []) (m := 0) (n := 40) (k := 1) (fun z hz => absurd hz List.not_mem_nil) (Nat.zero_le _)).shw (by decide) (by decide))⟩
        · exact ⟨.str _, _, .dat (.str _) (shw_num (by omega))⟩
      generalize ([.int (-1), .int ((ns.sum : Nat) : Int), .int (((ns.sum : Nat) : Int) + d3), .int (0 - ((ns.sum : Nat) : Int)), .int (10 ^ Int.toNat 39), .int (0 - 10 ^ Int.toNat 39), .bl true, .bl false, .non, .str ("0" : Str)] ++ [.str ("" : Str), .ref t1, .ref l1, .ref d1, .ref d2, .ref t2, .ref x, .ref l2, .str ((toString (first : Int) : String) : Str)] : List V) = its2 at eR things ⊢
      refine ⟨⟨_, SqL.of eR⟩, ?_⟩
      obtain ⟨pf, hpf⟩ : ∃ q, ps[first]? = some q := ⟨_, List.getElem?_eq_getElem (by omega)⟩
      have smf := spot_sml (ns := ns) (b := first) n12 (by omega)
      refine for_list (K := K) (a := R) (xs := its2) (fun m σ H => ∃ v12, σ = [some (.ref a), some (.int (0 + (i : Int))), some (.ref w), some (.ref p), some (.ref x), some (.ref L), some (.int ((ns.sum : Nat) : Int)), some (.int (first : Nat)), some (.int step), some (.ref D), v10, some (.ref S), v12, v13] ∧ Same HL H) ⟨_, rfl, Same.refl _⟩ (fun m σ H _ ⟨_, _, sl⟩ => SqL.of (sl _ _ eR)) ?_ ?_
      · rintro m y σ H hy ⟨v12, rfl, sl⟩
        obtain ⟨odd, t, th⟩ := things y (List.mem_of_getElem? hy)
        have bH := bL.same sl
        refine ⟨_, rfl, _, rfl, x, ns, bs, _, rfl, bH.tk, (by omega), .inr ⟨odd.same sl, ⟨t, th.same sl⟩, fun H1' s1' => ⟨rfl, _, rfl, iteNS rfl ?_⟩⟩⟩
        have bH1 := bH.same s1'
        refine ⟨_, rfl, _, rfl, x, ns, bs, _, rfl, bH1.tk, (by omega), .inl ⟨first, rfl, hf, fun H2' p2 s2' hp2 => ?_⟩⟩
        have bH2 := bH1.same s2'
        refine ⟨_, rfl, _, rfl, L, _, first, _, rfl, rfl, SqL.of bH2.du.at_, atI_nat (by rw [List.getElem?_map, hpf]; rfl), dSpot ns first, dSpot ns first, spot_dp hp2, spot_dp (bH2.du.it first pf hpf), smf.shaped (by decide), smf.shaped (by decide), _, rfl, ?_⟩
        rw [smf.refl]
        exact iteF ⟨_, rfl, (sl.trans s1').trans s2'⟩
      · rintro σ H ⟨v12, rfl, sl⟩
        exact ⟨_, _, _, _, _, _, _, _, _, _, _, _, _, rfl, sH.trans (s0L.trans sl)⟩
    · rintro σ H ⟨v1, v2, v3, v4, v5, v6, v7, v8, v9, v10, v11, v12, v13, rfl, sH⟩
      exact k H
end
end Rp

namespace Rp
open PySem PySem.Spec PyProof.Rows L2
theorem all_mk {w : World} {K : PySem.W.Frag} {h : Heap} {mg : Str → Option Value} {fa : Addr} (X : K.In h) (G : h.Ns mainGlobals mg) (hfa : mg "law" = some (.ref fa))
    {C CU UNoFit UNoName UNoPace UNoRate UNoRoom UNotNow UNoSpeed UNoText UTooMany UUnlike URateError fI fL fR_ fA fU_ fH fW fT fK_ fP fD fLaw : Addr} {odI anI odL anL odR_ anR_ odA anA odU_ anU_ odH anH odW anW odT anT odK_ anK_ odP anP odD anD odLaw anLaw : Option Addr} {slI slL slR_ slA slU_ slH slW slT slK_ slP slD slLaw : Array (Option Value)} {ocI kVI dcI pmI cdI ctI ocL kVL dcL pmL cdL ctL ocR_ kVR_ dcR_ pmR_ cdR_ ctR_ ocA kVA dcA pmA cdA ctA ocU_ kVU_ dcU_ pmU_ cdU_ ctU_ ocH kVH dcH pmH cdH ctH ocW kVW dcW pmW cdW ctW ocT kVT dcT pmT cdT ctT ocK_ kVK_ dcK_ pmK_ cdK_ ctK_ ocP kVP dcP pmP cdP ctP ocD kVD dcD pmD cdD ctD ocLaw kVLaw dcLaw pmLaw cdLaw ctLaw : Value}
    {nm q : Str} {N : Addr} {bs : List Value} {sn : List Str} {sub : List Value} {ab : Bool} {col : Option Bool} {dd : Option Addr} {m0 m1 m2 m3 m5 : Option Value}
    (aC : PySem.W.nsIn K mainGlobals "Talk" = some (some (.ref C)))
    (aU : PySem.W.nsIn K mainGlobals "NoBeat" = some (some (.ref CU)))
    (aNoFit : PySem.W.nsIn K mainGlobals "NoFit" = some (some (.ref UNoFit)))
    (aNoName : PySem.W.nsIn K mainGlobals "NoName" = some (some (.ref UNoName)))
    (aNoPace : PySem.W.nsIn K mainGlobals "NoPace" = some (some (.ref UNoPace)))
    (aNoRate : PySem.W.nsIn K mainGlobals "NoRate" = some (some (.ref UNoRate)))
    (aNoRoom : PySem.W.nsIn K mainGlobals "NoRoom" = some (some (.ref UNoRoom)))
    (aNotNow : PySem.W.nsIn K mainGlobals "NotNow" = some (some (.ref UNotNow)))
    (aNoSpeed : PySem.W.nsIn K mainGlobals "NoSpeed" = some (some (.ref UNoSpeed)))
    (aNoText : PySem.W.nsIn K mainGlobals "NoText" = some (some (.ref UNoText)))
    (aTooMany : PySem.W.nsIn K mainGlobals "TooMany" = some (some (.ref UTooMany)))
    (aUnlike : PySem.W.nsIn K mainGlobals "Unlike" = some (some (.ref UUnlike)))
    (aRateError : PySem.W.nsIn K mainGlobals "RateError" = some (some (.ref URateError)))
    (qI : PySem.W.findIn K (.ref C) "__init__" = some (some (.ref fI)))
    (iI : PySem.W.isFn K (.ref fI) = true)
    (lI : K.lookup fI = some ⟨ocI, odI, .func (PySem.W.fnOf "__init__" "Talk.__init__" (defArgs sInit) (defBody sInit) (defScope sInit) .none kVI dcI pmI anI cdI ctI), slI⟩)
    (cI : PySem.W.codeIn K cdI "Talk.__init__" = true)
    (kI : PySem.W.keepIn K (.ref fI) = true)
    (qL : PySem.W.findIn K (.ref C) "__len__" = some (some (.ref fL)))
    (iL : PySem.W.isFn K (.ref fL) = true)
    (lL : K.lookup fL = some ⟨ocL, odL, .func (PySem.W.fnOf "__len__" "Talk.__len__" (defArgs sLen) (defBody sLen) (defScope sLen) .none kVL dcL pmL anL cdL ctL), slL⟩)
    (cL : PySem.W.codeIn K cdL "Talk.__len__" = true)
    (kL : PySem.W.keepIn K (.ref fL) = true)
    (qR_ : PySem.W.findIn K (.ref C) "__repr__" = some (some (.ref fR_)))
    (iR_ : PySem.W.isFn K (.ref fR_) = true)
    (lR_ : K.lookup fR_ = some ⟨ocR_, odR_, .func (PySem.W.fnOf "__repr__" "Talk.__repr__" (defArgs sRepr) (defBody sRepr) (defScope sRepr) .none kVR_ dcR_ pmR_ anR_ cdR_ ctR_), slR_⟩)
    (cR_ : PySem.W.codeIn K cdR_ "Talk.__repr__" = true)
    (kR_ : PySem.W.keepIn K (.ref fR_) = true)
    (qA : PySem.W.findIn K (.ref C) "place" = some (some (.ref fA)))
    (iA : PySem.W.isFn K (.ref fA) = true)
    (lA : K.lookup fA = some ⟨ocA, odA, .func (PySem.W.fnOf "place" "Talk.place" (defArgs sPlace) (defBody sPlace) (defScope sPlace) .none kVA dcA pmA anA cdA ctA), slA⟩)
    (cA : PySem.W.codeIn K cdA "Talk.place" = true)
    (kA : PySem.W.keepIn K (.ref fA) = true)
    (qU_ : PySem.W.findIn K (.ref CU) "__init__" = some (some (.ref fU_)))
    (iU_ : PySem.W.isFn K (.ref fU_) = true)
    (lU_ : K.lookup fU_ = some ⟨ocU_, odU_, .func (PySem.W.fnOf "__init__" "RateError.__init__" (defArgs sRE) (defBody sRE) (defScope sRE) .none kVU_ dcU_ pmU_ anU_ cdU_ ctU_), slU_⟩)
    (cU_ : PySem.W.codeIn K cdU_ "RateError.__init__" = true)
    (kU_ : PySem.W.keepIn K (.ref fU_) = true)
    (gH : PySem.W.nsIn K mainGlobals "is_whole" = some (some (.ref fH)))
    (lH : K.lookup fH = some ⟨ocH, odH, .func (PySem.W.fnOf "is_whole" "is_whole" (defArgs sWhole) (defBody sWhole) (defScope sWhole) .none kVH dcH pmH anH cdH ctH), slH⟩)
    (cH : PySem.W.codeIn K cdH "is_whole" = true)
    (kH : PySem.W.keepIn K (.ref fH) = true)
    (gW : PySem.W.nsIn K mainGlobals "_law_well" = some (some (.ref fW)))
    (lW : K.lookup fW = some ⟨ocW, odW, .func (PySem.W.fnOf "_law_well" "_law_well" (defArgs sWell) (defBody sWell) (defScope sWell) .none kVW dcW pmW anW cdW ctW), slW⟩)
    (cW : PySem.W.codeIn K cdW "_law_well" = true)
    (kW : PySem.W.keepIn K (.ref fW) = true)
    (gT : PySem.W.nsIn K mainGlobals "_law_take" = some (some (.ref fT)))
    (lT : K.lookup fT = some ⟨ocT, odT, .func (PySem.W.fnOf "_law_take" "_law_take" (defArgs sTake) (defBody sTake) (defScope sTake) .none kVT dcT pmT anT cdT ctT), slT⟩)
    (cT : PySem.W.codeIn K cdT "_law_take" = true)
    (kT : PySem.W.keepIn K (.ref fT) = true)
    (gK_ : PySem.W.nsIn K mainGlobals "_law_talk" = some (some (.ref fK_)))
    (lK_ : K.lookup fK_ = some ⟨ocK_, odK_, .func (PySem.W.fnOf "_law_talk" "_law_talk" (defArgs sTalk) (defBody sTalk) (defScope sTalk) .none kVK_ dcK_ pmK_ anK_ cdK_ ctK_), slK_⟩)
    (cK_ : PySem.W.codeIn K cdK_ "_law_talk" = true)
    (kK_ : PySem.W.keepIn K (.ref fK_) = true)
    (gP : PySem.W.nsIn K mainGlobals "_law_places" = some (some (.ref fP)))
    (lP : K.lookup fP = some ⟨ocP, odP, .func (PySem.W.fnOf "_law_places" "_law_places" (defArgs sPlaces) (defBody sPlaces) (defScope sPlaces) .none kVP dcP pmP anP cdP ctP), slP⟩)
    (cP : PySem.W.codeIn K cdP "_law_places" = true)
    (kP : PySem.W.keepIn K (.ref fP) = true)
    (gD : PySem.W.nsIn K mainGlobals "_law_told" = some (some (.ref fD)))
    (lD : K.lookup fD = some ⟨ocD, odD, .func (PySem.W.fnOf "_law_told" "_law_told" (defArgs sTold) (defBody sTold) (defScope sTold) .none kVD dcD pmD anD cdD ctD), slD⟩)
    (cD : PySem.W.codeIn K cdD "_law_told" = true)
    (kD : PySem.W.keepIn K (.ref fD) = true)
    (gLaw : PySem.W.nsIn K mainGlobals "law" = some (some (.ref fLaw)))
    (lLaw : K.lookup fLaw = some ⟨ocLaw, odLaw, .func (PySem.W.fnOf "law" "law" (defArgs sLaw) (defBody sLaw) (defScope sLaw) .none kVLaw dcLaw pmLaw anLaw cdLaw ctLaw), slLaw⟩)
    (cLaw : PySem.W.codeIn K cdLaw "law" = true)
    (kLaw : PySem.W.keepIn K (.ref fLaw) = true)
    (pg : PySem.W.plainGet K C Str.empty = true)
    (hd : PySem.W.hasDictIn K C = true)
    (po : PySem.W.plainOver K C = true)
    (mk : PySem.W.makesIn K C = true)
    (kc : PySem.W.keepIn K (.ref C) = true)
    (sa : PySem.W.findIn K (.ref C) "__setattr__" = some (some (.builtin "object.__setattr__")))
    (n1 : PySem.W.findIn K (.ref C) "lengths" = some none)
    (n2 : PySem.W.findIn K (.ref C) "sizes" = some none)
    (ca : PySem.W.findIn K (.ref C) "__class__" = some (some (.builtin "object.__class__")))
    (cn : PySem.W.specialIn K (.builtin "object.__class__") "__get__" = some (some (.builtin "getset_descriptor.__get__")))
    (ct : PySem.W.takesIn K (.builtin "object.__class__") = some true)
    (cm : PySem.W.mroIn K C (.type "object") = some true)
    (ki : PySem.W.kitOne K (.ref C) (.type "int") = some false)
    (xU : K.lookup CU = some (excClassObj nm q CU N bs [.ref URateError, .type "Exception", .type "BaseException", .type "object"] true sn sub ab col dd m0 m1 m2 m3 m5 "Exception.__new__"))
    (uS : PySem.W.findIn K (.ref CU) "__setattr__" = some (some (.builtin "object.__setattr__")))
    (uE : PySem.W.subIn K (.ref CU) (.type "BaseException") = some true)
    (uT : PySem.W.typeIn K (.ref CU) = some (.type "type"))
    (uK : PySem.W.keepIn K (.ref CU) = true)
    (uF : PySem.W.typeIn K (.ref fU_) = some (.type "function"))
    (u1 : PySem.W.findIn K (.ref CU) "thing" = some none)
    (uG : PySem.W.findIn K (.ref CU) "__getattribute__" = some (some (.builtin "BaseException.__getattribute__")))
    (uA : PySem.W.findIn K (.ref CU) "__getattr__" = some none)
    (uD : PySem.W.hasDictIn K CU = true)
    (uC : PySem.W.findIn K (.ref CU) "__class__" = some (some (.builtin "object.__class__")))
    (uM : PySem.W.mroIn K CU (.type "object") = some true)
    (uU : PySem.W.subIn K (.ref CU) (.ref CU) = some true)
    (kkNoFit : PySem.W.kitOne K (.ref CU) (.ref UNoFit) = some false)
    (kkNoName : PySem.W.kitOne K (.ref CU) (.ref UNoName) = some false)
    (kkNoPace : PySem.W.kitOne K (.ref CU) (.ref UNoPace) = some false)
    (kkNoRate : PySem.W.kitOne K (.ref CU) (.ref UNoRate) = some false)
    (kkNoRoom : PySem.W.kitOne K (.ref CU) (.ref UNoRoom) = some false)
    (kkNotNow : PySem.W.kitOne K (.ref CU) (.ref UNotNow) = some false)
    (kkNoSpeed : PySem.W.kitOne K (.ref CU) (.ref UNoSpeed) = some false)
    (kkNoText : PySem.W.kitOne K (.ref CU) (.ref UNoText) = some false)
    (kkTooMany : PySem.W.kitOne K (.ref CU) (.ref UTooMany) = some false)
    (kkUnlike : PySem.W.kitOne K (.ref CU) (.ref UUnlike) = some false)
    (kkRateError : PySem.W.kitOne K (.ref CU) (.ref URateError) = some true)
    (kkValueError : PySem.W.kitOne K (.ref CU) (.type "ValueError") = some false)
    (kkArithmeticError : PySem.W.kitOne K (.ref CU) (.type "ArithmeticError") = some false)
    (vV : PySem.W.findCls K (.type "Exception") (.type "type") "__init__" = some (.val (.builtin "Exception.__init__")))
    (zint : PySem.W.nsIn K mainGlobals "int" = some none)
    (zlen : PySem.W.nsIn K mainGlobals "len" = some none)
    (zrange : PySem.W.nsIn K mainGlobals "range" = some none)
    (ztuple : PySem.W.nsIn K mainGlobals "tuple" = some none)
    (zisinstance : PySem.W.nsIn K mainGlobals "isinstance" = some none)
    (zrepr : PySem.W.nsIn K mainGlobals "repr" = some none)
    (zmin : PySem.W.nsIn K mainGlobals "min" = some none)
    (zmax : PySem.W.nsIn K mainGlobals "max" = some none)
    (zlist : PySem.W.nsIn K mainGlobals "list" = some none)
    (zstr : PySem.W.nsIn K mainGlobals "str" = some none)
    (zsum : PySem.W.nsIn K mainGlobals "sum" = some none)
    (zbool : PySem.W.nsIn K mainGlobals "bool" = some none)
    (zException : PySem.W.nsIn K mainGlobals "Exception" = some none)
    (zValueError : PySem.W.nsIn K mainGlobals "ValueError" = some none)
    (zArithmeticError : PySem.W.nsIn K mainGlobals "ArithmeticError" = some none)
    : ∃ fd : FuncData, (∀ (s : Shared) (u : Value), BindsTo s fd ⟨[u], []⟩ [("_law_script", u)]) ∧ ∀ base : Heap, K.In base → base.Ns mainGlobals mg → FnG PySem.Challenge.pw_rateplan_k03_places_of_beats w K mg base CX0 5 fa fd ["_law_script"] (spLaw K) := by
  have e := hfa.symm.trans (PySem.W.mg_of X G gLaw)
  cases e
  have FI := fun_mk (st := sInit) lI cI kI
  have bI := FI.binds (ps := ["self", "lengths", "sizes"]) fun _ _ _ _ _ _ us hl => match us, hl with | [_, _, _], _ => rfl
  have FL := fun_mk (st := sLen) lL cL kL
  have bL := FL.binds (ps := ["self"]) fun _ _ _ _ _ _ us hl => match us, hl with | [_], _ => rfl
  have FR_ := fun_mk (st := sRepr) lR_ cR_ kR_
  have bR_ := FR_.binds (ps := ["self"]) fun _ _ _ _ _ _ us hl => match us, hl with | [_], _ => rfl
  have FA := fun_mk (st := sPlace) lA cA kA
  have bA := FA.binds (ps := ["self", "beat"]) fun _ _ _ _ _ _ us hl => match us, hl with | [_, _], _ => rfl
  have FU_ := fun_mk (st := sRE) lU_ cU_ kU_
  have bU_ := FU_.binds (ps := ["self", "thing"]) fun _ _ _ _ _ _ us hl => match us, hl with | [_, _], _ => rfl
  have FH := fun_mk (st := sWhole) lH cH kH
  have bH := FH.binds (ps := ["thing"]) fun _ _ _ _ _ _ us hl => match us, hl with | [_], _ => rfl
  have mH := PySem.W.mg_of X G gH
  have FW := fun_mk (st := sWell) lW cW kW
  have bW := FW.binds (ps := ["_law_script", "_law_k"]) fun _ _ _ _ _ _ us hl => match us, hl with | [_, _], _ => rfl
  have mW := PySem.W.mg_of X G gW
  have FT := fun_mk (st := sTake) lT cT kT
  have bT := FT.binds (ps := ["_law_well_here", "_law_top"]) fun _ _ _ _ _ _ us hl => match us, hl with | [_, _], _ => rfl
  have mT := PySem.W.mg_of X G gT
  have FK_ := fun_mk (st := sTalk) lK_ cK_ kK_
  have bK_ := FK_.binds (ps := ["_law_well_here"]) fun _ _ _ _ _ _ us hl => match us, hl with | [_], _ => rfl
  have mK_ := PySem.W.mg_of X G gK_
  have FP := fun_mk (st := sPlaces) lP cP kP
  have bP := FP.binds (ps := ["_law_lengths"]) fun _ _ _ _ _ _ us hl => match us, hl with | [_], _ => rfl
  have mP := PySem.W.mg_of X G gP
  have FD := fun_mk (st := sTold) lD cD kD
  have bD := FD.binds (ps := ["_law_talk_here", "_law_thing"]) fun _ _ _ _ _ _ us hl => match us, hl with | [_, _], _ => rfl
  have mD := PySem.W.mg_of X G gD
  have FLaw := fun_mk (st := sLaw) lLaw cLaw kLaw
  have bLaw := FLaw.binds (ps := ["_law_script"]) fun _ _ _ _ _ _ us hl => match us, hl with | [_], _ => rfl
  have mLaw := PySem.W.mg_of X G gLaw
  have nint := PySem.W.mg_none_of X G zint
  have nlen := PySem.W.mg_none_of X G zlen
  have nrange := PySem.W.mg_none_of X G zrange
  have ntuple := PySem.W.mg_none_of X G ztuple
  have nisinstance := PySem.W.mg_none_of X G zisinstance
  have nrepr := PySem.W.mg_none_of X G zrepr
  have nmin := PySem.W.mg_none_of X G zmin
  have nmax := PySem.W.mg_none_of X G zmax
  have nlist := PySem.W.mg_none_of X G zlist
  have nstr := PySem.W.mg_none_of X G zstr
  have nsum := PySem.W.mg_none_of X G zsum
  have nbool := PySem.W.mg_none_of X G zbool
  have nException := PySem.W.mg_none_of X G zException
  have nValueError := PySem.W.mg_none_of X G zValueError
  have nArithmeticError := PySem.W.mg_none_of X G zArithmeticError
  have mC := PySem.W.mg_of X G aC
  have B : Bi mg := ⟨nint, nlen, nrange, ntuple⟩
  have T : TkD K C fI fL fR_ fA := { cl := ⟨pg, hd, po, sa⟩, make := ⟨mk, qI, iI, kc⟩, nl := n1, ns := n2, ca := ca, cn := cn, ct := ct, cm := cm, ln := qL, lnf := iL, rp := qR_, rpf := iR_, mP := ⟨qA, iA, kA⟩, ki := ki }
  have U : NbC K mg CU fU_ := { oc := { cls := ⟨nm, q, N, bs, _, sn, sub, ab, col, dd, m0, m1, m2, m3, m5, xU, rfl⟩, sa := uS, exC := uE, tyC := uT, kC := uK }, iU := qU_, tU := uF, mU := PySem.W.mg_of X G aU, n1 := u1 }
  have M : ErD K mg CU UNoFit UNoName UNoPace UNoRate UNoRoom UNotNow UNoSpeed UNoText UTooMany UUnlike URateError := { ec := ⟨uG, uA, uE, uD, uC, cn, ct, uM⟩, xf := ⟨uG, uA, uE, uD⟩, em := PySem.W.exm_ref uE uD uT uU, NoFit := PySem.W.mg_of X G aNoFit, kNoFit := kkNoFit, NoName := PySem.W.mg_of X G aNoName, kNoName := kkNoName, NoPace := PySem.W.mg_of X G aNoPace, kNoPace := kkNoPace, NoRate := PySem.W.mg_of X G aNoRate, kNoRate := kkNoRate, NoRoom := PySem.W.mg_of X G aNoRoom, kNoRoom := kkNoRoom, NotNow := PySem.W.mg_of X G aNotNow, kNotNow := kkNotNow, NoSpeed := PySem.W.mg_of X G aNoSpeed, kNoSpeed := kkNoSpeed, NoText := PySem.W.mg_of X G aNoText, kNoText := kkNoText, TooMany := PySem.W.mg_of X G aTooMany, kTooMany := kkTooMany, Unlike := PySem.W.mg_of X G aUnlike, kUnlike := kkUnlike, RateError := PySem.W.mg_of X G aRateError, kRateError := kkRateError, mValueError := nValueError, mArithmeticError := nArithmeticError, kValueError := kkValueError, kArithmeticError := kkArithmeticError }
  have FRr := fun (base : Heap) => ok_repr (P := PySem.Challenge.pw_rateplan_k03_places_of_beats) (w := w) (mg := mg) (base := base) FR_ T
  exact ⟨PySem.W.fnOf "law" "law" (defArgs sLaw) (defBody sLaw) (defScope sLaw) .none kVLaw dcLaw pmLaw anLaw cdLaw ctLaw, fun s v => .of_eq rfl, fun base _ _ => ok_law FLaw T B mC nrepr nmin nmax nlist nstr FW mW bW FT mT bT FK_ mK_ bK_ FI bI FP mP bP FD (ok_told FD T U M nisinstance nrepr (ok_place FA T U B nsum nisinstance nbool nException vV FH mH bH FL bL FU_ bU_) bA (FRr _) bR_) mD bD⟩
end Rp
open PySem PySem.W PyProof.Rows
set_option maxRecDepth 100000 in
set_option maxHeartbeats 0 in
theorem PySem.Challenge.cw_rateplan_k03_places_of_beats_holds : PySem.Challenge.rw_rateplan_k03_places_of_beats.Holds := by
  w_on; o_law; k_head; (case hw => w_witness2)
  k_fill
  refine Rp.walkG (l := PySem.Challenge.rw_rateplan_k03_places_of_beats) (n := 63) (k := 5) (x := "_law_script") (CX := fun _ => L2.CX0) (sp := Rp.spLaw) rfl (by decide) rfl ⟨rfl, by decide, by decide⟩ (fun w h Y => PySem.W.kIn_of Y) ?F (fun K H a ns _ _ hS => ⟨a, ns, rfl, hS, fun _ => rfl⟩) (fun _ _ _ _ _ z => z)
  case F =>
    intro w mg fa h KX G hmg
    refine' Rp.all_mk KX G hmg ?aC ?aU ?aNoFit ?aNoName ?aNoPace ?aNoRate ?aNoRoom ?aNotNow ?aNoSpeed ?aNoText ?aTooMany ?aUnlike ?aRateError ?qI ?iI ?lI ?cI ?kI ?qL ?iL ?lL ?cL ?kL ?qR_ ?iR_ ?lR_ ?cR_ ?kR_ ?qA ?iA ?lA ?cA ?kA ?qU_ ?iU_ ?lU_ ?cU_ ?kU_ ?gH ?lH ?cH ?kH ?gW ?lW ?cW ?kW ?gT ?lT ?cT ?kT ?gK_ ?lK_ ?cK_ ?kK_ ?gP ?lP ?cP ?kP ?gD ?lD ?cD ?kD ?gLaw ?lLaw ?cLaw ?kLaw ?pg ?hd ?po ?mk ?kc ?sa ?n1 ?n2 ?ca ?cn ?ct ?cm ?ki ?xU ?uS ?uE ?uT ?uK ?uF ?u1 ?uG ?uA ?uD ?uC ?uM ?uU ?kkNoFit ?kkNoName ?kkNoPace ?kkNoRate ?kkNoRoom ?kkNotNow ?kkNoSpeed ?kkNoText ?kkTooMany ?kkUnlike ?kkRateError ?kkValueError ?kkArithmeticError ?vV ?zint ?zlen ?zrange ?ztuple ?zisinstance ?zrepr ?zmin ?zmax ?zlist ?zstr ?zsum ?zbool ?zException ?zValueError ?zArithmeticError
    (case aC => k_is)
    (case aU => k_is)
    (case aNoFit => k_is)
    (case aNoName => k_is)
    (case aNoPace => k_is)
    (case aNoRate => k_is)
    (case aNoRoom => k_is)
    (case aNotNow => k_is)
    (case aNoSpeed => k_is)
    (case aNoText => k_is)
    (case aTooMany => k_is)
    (case aUnlike => k_is)
    (case aRateError => k_is)
    (case qI => k_is)
    (case iI => k_is)
    (case lI => k_is)
    (case cI => k_is)
    (case kI => k_is)
    (case qL => k_is)
    (case iL => k_is)
    (case lL => k_is)
    (case cL => k_is)
    (case kL => k_is)
    (case qR_ => k_is)
    (case iR_ => k_is)
    (case lR_ => k_is)
    (case cR_ => k_is)
    (case kR_ => k_is)
    (case qA => k_is)
    (case iA => k_is)
    (case lA => k_is)
    (case cA => k_is)
    (case kA => k_is)
    (case qU_ => k_is)
    (case iU_ => k_is)
    (case lU_ => k_is)
    (case cU_ => k_is)
    (case kU_ => k_is)
    (case gH => k_is)
    (case lH => k_is)
    (case cH => k_is)
    (case kH => k_is)
    (case gW => k_is)
    (case lW => k_is)
    (case cW => k_is)
    (case kW => k_is)
    (case gT => k_is)
    (case lT => k_is)
    (case cT => k_is)
    (case kT => k_is)
    (case gK_ => k_is)
    (case lK_ => k_is)
    (case cK_ => k_is)
    (case kK_ => k_is)
    (case gP => k_is)
    (case lP => k_is)
    (case cP => k_is)
    (case kP => k_is)
    (case gD => k_is)
    (case lD => k_is)
    (case cD => k_is)
    (case kD => k_is)
    (case gLaw => k_is)
    (case lLaw => k_is)
    (case cLaw => k_is)
    (case kLaw => k_is)
    (case pg => k_is)
    (case hd => k_is)
    (case po => k_is)
    (case mk => k_is)
    (case kc => k_is)
    (case sa => k_is)
    (case n1 => k_is)
    (case n2 => k_is)
    (case ca => k_is)
    (case cn => k_is)
    (case ct => k_is)
    (case cm => k_is)
    (case ki => first | k_is | kit_is)
    (case xU => k_is)
    (case uS => k_is)
    (case uE => k_is)
    (case uT => k_is)
    (case uK => k_is)
    (case uF => k_is)
    (case u1 => k_is)
    (case uG => k_is)
    (case uA => k_is)
    (case uD => k_is)
    (case uC => k_is)
    (case uM => k_is)
    (case uU => first | rfl | k_is)
    (case kkNoFit => first | k_is | kit_is)
    (case kkNoName => first | k_is | kit_is)
    (case kkNoPace => first | k_is | kit_is)
    (case kkNoRate => first | k_is | kit_is)
    (case kkNoRoom => first | k_is | kit_is)
    (case kkNotNow => first | k_is | kit_is)
    (case kkNoSpeed => first | k_is | kit_is)
    (case kkNoText => first | k_is | kit_is)
    (case kkTooMany => first | k_is | kit_is)
    (case kkUnlike => first | k_is | kit_is)
    (case kkRateError => first | k_is | kit_is)
    (case kkValueError => first | k_is | kit_is)
    (case kkArithmeticError => first | k_is | kit_is)
    (case vV => k_is)
    (case zint => k_is)
    (case zlen => k_is)
    (case zrange => k_is)
    (case ztuple => k_is)
    (case zisinstance => k_is)
    (case zrepr => k_is)
    (case zmin => k_is)
    (case zmax => k_is)
    (case zlist => k_is)
    (case zstr => k_is)
    (case zsum => k_is)
    (case zbool => k_is)
    (case zException => k_is)
    (case zValueError => k_is)
    (case zArithmeticError => k_is)

