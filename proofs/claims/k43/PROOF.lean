import PyProof.Rows.All
import Wide.All
import OpenK.AllK
import Wide.FinOn
import HandS.ForMost
import HandS.ForExc
import HandS.Nested
import HandS.TupAny
import PyProof.ListRange
import PyProof.RowDictHeap
import KE.KTupSum
import OpenK.KOps
import HandS.Dict
import HandS.IsInst
import HandS.Zip
import HandS.Defaults
import HandS.MakeKwOnly
import KE.GoesEnumKw
import KE.GoesMore
import HandS.Iter
import HandS.OwnEq
import HandS.TupMul
import KE.DataMinMax
import HandS.Small
import HandS.Style
import HandS.WideBits
import HandS.Strs
import HandS.SetFor
import PyProof.Rows.SetFrom
import PyProof.InstNe
import PyProof.IsiBase
import PyProof.FactsBase
import PyProof.TableTree
import PyProof.FactsTree
import KE.KIsBytes
import KE.KSuperObj
import KE.GoesNew
import HandS.Flow
import HandS.SortInts
import KE.KFmtOwn
import HandS.FStr
import HandS.Gcd
import HandS.RaiseMore
import HandS.EndTab
import HandS.EndBits
import PySem.Challenge.RW_rateplan_k43_what_is_a_road_of_a_kind
set_option Elab.async false
set_option linter.all false
set_option maxRecDepth 100000
set_option maxHeartbeats 4000000
/-! Defs within defs, as values: what they hold (their cells) is told by the heap, where no frame has it; while such a def runs, its own cells are forgotten. -/
namespace Rp
open PySem PySem.Spec PyProof.Rows L2 NdefX
/-- what may be written -/
def Mu : Option HO → Prop
  | some (.lst _) => True
  | some (.dK _) => True
  | some (.ins _ _ _) => True
  | some (.tbl _) => True
  | _ => False
/-- the cell at c is this object, that holds this value -/
def CellO (c : Addr) (z : V × Obj) : HO := .ext fun h => h.get? c = some z.2 ∧ ∃ u, RelV z.1 u ∧ z.2.data = .cell (some u)
section
variable {P : Program} {w : World} {H H' : Hp} {h h' : Heap} {c f : Addr} {v : V × Obj} {cs : List Addr}
theorem cellO_ok (hc : h.get? c = some v.2 ∧ ∃ u, RelV v.1 u ∧ v.2.data = .cell (some u)) : ObjOk P w H h c (CellO c v) :=
  ⟨hc, ⟨v.2, hc.1⟩, fun h1 h2 hc k => ⟨k _ hc.1, hc.2⟩⟩
theorem cellO_at (hok : HOk P w H h) (e : H c = some (CellO c v)) : h.get? c = some v.2 ∧ ∃ u, RelV v.1 u ∧ v.2.data = .cell (some u) := (hok c _ e).1
theorem cellO_get (hok : HOk P w H h) (e : H c = some (CellO c v)) : ∃ u, RelV v.1 u ∧ h.IsCell c (some u) := by
  obtain ⟨ho, u, r, hd⟩ := cellO_at hok e
  exact ⟨u, r, v.2, ho, hd⟩
/-- the heap but for these -/
def drop (cs : List Addr) (H : Hp) : Hp := fun b => if b ∈ cs then none else H b
/-- .. and with them again -/
def retr (cs : List Addr) (H H' : Hp) : Hp := fun b => if b ∈ cs then H b else H' b
/-- these hold cells -/
def Cells (cs : List Addr) (H : Hp) : Prop := ∀ c ∈ cs, ∃ v, H c = some (CellO c v)
theorem drop_in {b : Addr} (h : b ∈ cs) : drop cs H b = none := if_pos h
theorem drop_out {b : Addr} (h : b ∉ cs) : drop cs H b = H b := if_neg h
theorem retr_in {b : Addr} (h : b ∈ cs) : retr cs H H' b = H b := if_pos h
theorem retr_out {b : Addr} (h : b ∉ cs) : retr cs H H' b = H' b := if_neg h
theorem Cells.out (C : Cells cs H) {b : Addr} {o : HO} (e : H b = some o) (ne : ∀ v, o ≠ CellO b v) : b ∉ cs := fun z => by
  obtain ⟨v, h⟩ := C b z
  rw [e] at h
  exact ne v (Option.some.inj h)
theorem hok_drop (C : Cells cs H) (k : HOk P w H h) : HOk P w (drop cs H) h := fun a o e => by
  by_cases ha : a ∈ cs
  · rw [drop_in ha] at e; cases e
  · rw [drop_out ha] at e
    refine (k a o e).stay (fun b u _ e => e) (fun b e => ?_) (fun b xs e => ?_)
    · rw [drop_out (C.out e fun v z => by cases z)]; exact e
    · rw [drop_out (C.out e fun v z => by cases z)]; exact e
end
section
variable {X : Cx} {pins : List (Addr × Obj)} {σ : L2.St} {H : Hp} {s : Shared} {k : Nat} {f : Addr} {F : NF} {ps fr : List Str} {sp : List (Option V) → Sp} {us : List Value} {vs xs : List V} {Q : VK} {cs : List Addr}
/-- the cells of a def within, as the heap has them -/
structure HasC (H : Hp) (cl : List (Str × Addr)) (fr : List Str) (xs : List V) : Prop where
  len : xs.length = fr.length
  at_ : ∀ (i : Nat) (y : Str), fr[i]? = some y → ∃ c x, cl.lookup y = some c ∧ xs[i]? = some x.1 ∧ H c = some (CellO c x)
  all : ∀ (y : Str) (c : Addr), cl.lookup y = some c → y ∈ fr
  inj : ∀ (x y : Str) (c : Addr), cl.lookup x = some c → cl.lookup y = some c → x = y
/-- the addresses of its cells -/
def cellsOf (cl : List (Str × Addr)) (fr : List Str) : List Addr := fr.filterMap fun y => cl.lookup y
theorem HasC.cells {cl : List (Str × Addr)} (h : HasC H cl fr xs) : Cells (cellsOf cl fr) H := fun c hc => by
  obtain ⟨y, hy, e⟩ := List.mem_filterMap.mp hc
  obtain ⟨i, hi, rfl⟩ := List.mem_iff_getElem.mp hy
  obtain ⟨c', x, h1, _, h3⟩ := h.at_ i _ (List.getElem?_eq_getElem hi)
  rw [h1] at e
  cases e
  exact ⟨x, h3⟩
theorem cell_not {c : Addr} {p : Heap → Prop} (I : Inv X pins σ H s) (hf : H c = some (.ext p)) (C : Cells cs H) (hp : ∀ h : Heap, p h → ∃ o, h.get? c = some o ∧ ∀ v, o.data ≠ .cell v) : c ∉ cs := C.out hf fun v z => by
  unfold CellO at z
  injection z with z
  have q := (I.hok c _ hf).1
  obtain ⟨o, ho, hn⟩ := hp _ q
  rw [z] at q
  obtain ⟨ho', u, _, hd⟩ := q
  rw [ho] at ho'
  cases ho'
  exact hn _ hd
theorem fn_not {c : Addr} {F : NF} (I : Inv X pins σ H s) (hf : H c = some (FnO c F)) (C : Cells cs H) : c ∉ cs := cell_not I hf C fun h ⟨od, sl, doc, pm, ctv, e⟩ => ⟨_, e, fun v z => by cases z⟩
theorem code_not {c : Addr} {q : Str} (I : Inv X pins σ H s) (hf : H c = some (LamX.CodeO c q)) (C : Cells cs H) : c ∉ cs := cell_not I hf C fun h ⟨oc, vs, t, e, e2, _⟩ => ⟨_, e, fun v z => by rw [e2] at z; cases z⟩
theorem run_closure (Fn : NOk X.prog X.w X.K X.mg X.base CX0 k f F ps fr sp) (hr : Room k X.A) (I : Inv X pins σ H s) (hf : H f = some (FnO f F)) (hc : H F.c = some (LamX.CodeO F.c F.qual)) (C : HasC H F.cl fr xs) (r : Vals vs us)
    (h : sp (xs.map some) vs (drop (cellsOf F.cl fr) H) (fun v H' => (∀ c ∈ cellsOf F.cl fr, H' c = none) → Q v (retr (cellsOf F.cl fr) H H')) (fun _ _ _ => False)) : wpAny (model X.prog X.w) X.A (call (.ref f) us) (EP X pins σ Q) X.xe s := by
  have cc := C.cells
  have en := I.env0
  have hfo : f ∉ cellsOf F.cl fr := fn_not I hf cc
  have hco : F.c ∉ cellsOf F.cl fr := code_not I hc cc
  have en' : Env0 X.prog X.w X.K X.mg X.base X.A X.stack s (drop (cellsOf F.cl fr) H) := ⟨en.frames, en.mod, fun b o e => ⟨(en.bs b o e).1, by
      by_cases hb : b ∈ cellsOf F.cl fr
      · exact drop_in hb
      · rw [drop_out hb]; exact (en.bs b o e).2⟩, en.bsz, en.funs, fun b hb => by
      by_cases hb' : b ∈ cellsOf F.cl fr
      · exact drop_in hb'
      · rw [drop_out hb']; exact en.frf b hb, hok_drop cc en.hok, en.bare⟩
  have ca : CellsAt F.cl fr (xs.map some) s.heap (drop (cellsOf F.cl fr) H) := ⟨by rw [List.length_map]; exact C.len, fun y c hc => by
      have hy := C.all y c hc
      have hm : c ∈ cellsOf F.cl fr := List.mem_filterMap.mpr ⟨y, hy, hc⟩
      obtain ⟨v, e⟩ := cc c hm
      obtain ⟨u, _, hu⟩ := cellO_get I.hok e
      exact ⟨drop_in hm, some u, hu⟩, C.inj, fun i y hy => by
      obtain ⟨c, x, h1, h2, h3⟩ := C.at_ i y hy
      obtain ⟨u, ru, hu⟩ := cellO_get I.hok h3
      refine ⟨c, h1, fun v hv => ⟨u, ?_, hu⟩⟩
      rw [List.getElem?_map, h2] at hv
      cases hv
      exact ru⟩
  refine wpAny_call (codeAny_mono (Fn.run X.A X.stack s _ us vs _ _ _ hr en' (by rw [drop_out hfo]; exact hf) (by rw [drop_out hco]; exact hc) ca r h) fun res s' hq => ?_)
  cases res with
  | error e => exact hq.elim
  | ok fl =>
    cases fl with
    | next => exact hq.elim
    | brk => exact hq.elim
    | cont => exact hq.elim
    | ret u =>
      obtain ⟨v, H', os, bare, un, hok, rv, q⟩ := hq
      have free : ∀ c ∈ cellsOf F.cl fr, H' c = none := fun c hc => by
        obtain ⟨v, e⟩ := cc c hc
        obtain ⟨u, _, o, ho, _⟩ := cellO_get I.hok e
        exact un.free c o ho (drop_in hc) (fun z => nomatch z)
      refine I.after ⟨v, retr (cellsOf F.cl fr) H H', os, bare, ⟨fun b o e hb nf nx => ?_, fun b o e hb hf nx => ?_, fun b o e hb nx => ?_, un.there, fun b xs e => ?_, fun b o u e => ?_, fun b ps e => ?_⟩, fun a o e => ?_, rv, q free⟩
      · have hb' : drop (cellsOf F.cl fr) H b = none := by
          by_cases z : b ∈ cellsOf F.cl fr
          · exact drop_in z
          · rw [drop_out z]; exact hb
        exact un.keep b o e hb' nf nx
      · have hb' : drop (cellsOf F.cl fr) H b = none := by
          by_cases z : b ∈ cellsOf F.cl fr
          · exact drop_in z
          · rw [drop_out z]; exact hb
        exact un.slot b o e hb' hf nx
      · have z : b ∉ cellsOf F.cl fr := fun z => by obtain ⟨v, e⟩ := cc b z; rw [hb] at e; cases e
        rw [retr_out z]
        exact un.free b o e (by rw [drop_out z]; exact hb) nx
      · have z := cc.out e fun v z => by cases z
        rw [retr_out z]
        exact un.tups b xs (by rw [drop_out z]; exact e)
      · have z := cc.out e fun v z => by cases z
        rw [retr_out z]
        exact un.frzs b o u (by rw [drop_out z]; exact e)
      · have z := cc.out e fun v z => by cases z
        obtain ⟨more, m⟩ := un.tbls b ps (by rw [drop_out z]; exact e)
        exact ⟨more, by rw [retr_out z]; exact m⟩
      · by_cases z : a ∈ cellsOf F.cl fr
        · rw [retr_in z] at e
          obtain ⟨x, e'⟩ := cc a z
          rw [e'] at e
          cases e
          obtain ⟨ho, hu⟩ := cellO_at I.hok e'
          refine cellO_ok ⟨un.keep a _ ho (drop_in z) (fun hfs => ?_) (fun z => nomatch z), hu⟩
          rw [en.frf a hfs] at e'
          cases e'
        · rw [retr_out z] at e
          refine (hok a o e).stay (fun b u _ e => e) (fun b e => ?_) (fun b xs e => ?_)
          · have z' : b ∉ cellsOf F.cl fr := fun z => by rw [free b z] at e; cases e
            rw [retr_out z']; exact e
          · have z' : b ∉ cellsOf F.cl fr := fun z => by rw [free b z] at e; cases e
            rw [retr_out z']; exact e
/-- a def within, by its text -/
def GoodF (st : Stmt) (name qual : Str) (F : NF) : Prop := ∃ cl c', F = NF.of st name qual cl c'
def tClo (st : Stmt) (name qual : Str) (fr : List Str) (sp : List (Option V) → Sp) (te : TE) (t : TA) : TE := fun σ H Q => te σ H fun x H0 => ∃ f, x = .ref f ∧ (∃ F, H0 f = some (FnO f F)) ∧ t σ H0 fun vs H1 => ∃ F xs, H1 f = some (FnO f F) ∧ GoodF st name qual F ∧ H1 F.c = some (LamX.CodeO F.c F.qual) ∧ HasC H1 F.cl fr xs ∧ ((∀ b q, H1 b = some (LamX.CodeO b q) → b ∉ cellsOf F.cl fr) →
  sp (xs.map some) vs (drop (cellsOf F.cl fr) H1) (fun v H' => (∀ c ∈ cellsOf F.cl fr, H' c = none) → Q v (retr (cellsOf F.cl fr) H1 H')) (fun _ _ _ => False))
theorem pe_closure {st : Stmt} {name qual : Str} {fe e : Expr} {es : List Expr} {pos : Pos} {te : TE} {t : TA} (Fn : ∀ f F, GoodF st name qual F → NOk X.prog X.w X.K X.mg X.base CX0 k f F ps fr sp) (hr : Room k X.A) (hfe : PE X fe te) (ha : PA X (e :: es) t)
    (hev : eval (.Call fe (e :: es) [] pos) X.env = (eval fe X.env >>= fun f => callWith pos f [] (backTo pos (starEach (e :: es) X.env)) []) := by first | rfl | (conv => lhs; unfold eval))
    (hst : starEach (e :: es) X.env = (false, eval e X.env) :: starEach es X.env := by rfl)
    (hpl : (backTo pos (starEach es X.env)).any (·.1) = false := by rfl) : PE X (.Call fe (e :: es) [] pos) (tClo st name qual fr sp te t) :=
  ⟨fun pins s σ H Q I h => by
    rw [hev]
    refine wpAny_bind (thn (hfe.run pins s σ H _ I h) fun u s1 ⟨v, H1, I1, r1, f, ev, ⟨F0, hF0⟩, h1⟩ => ?_)
    subst ev
    cases r1
    refine PySem.W.callWith_F (fnAt_of I1 hF0) (thn (ha.run pos pins s1 σ H1 _ I1 h1) fun us s2 ⟨vs, H2, I2, r2, F, xs, hF, g, hc, C, q⟩ => ⟨fnAt_of I2 hF, ?_⟩) hst hpl
    exact run_closure (Fn f F g) hr I2 hF hc C r2 (q fun b q e => code_not I2 e C.cells)⟩
end
end Rp

/-! A second layer over the hand layer: values as data (D), the changing objects as a list (O), numbered; no address, no heap is seen by what stands above. -/
namespace Rp
open PySem PySem.Spec PyProof.Rows L2 NdefX
/-- a value: a scalar, a tuple of values, the number of a changing object, a list of whole numbers that is only read -/
inductive D where
  | v (x : V)
  | tup (ds : List D)
  | ptr (i : Nat)
  | scr (ns : List Int)
  | fn (st : Stmt) (name qual : Str) (fr : List Str) (ds : List D)
  | lfn (st : Stmt) (name qual : Str) (cl : List (Str × Addr))
/-- a changing object -/
inductive O where
  | lst (ds : List D)
  | ins (C : Addr) (fs : List (Str × D))
  | dK (kvs : List (Key × D))
  | raw (u : HO)
  | tab (P : Addr) (nm : Nat → Nat → Str)
abbrev OH := List O
abbrev SH := List (Option D)
abbrev KH := D → OH → Prop
def SqF (K : PySem.W.Frag) (H : Hp) (a : Addr) (xs : List V) : Prop :=
  (∃ o, H a = some (.frz o (.lst xs))) ∨ ∃ (o : Obj) (its : Array Value) (n : Nat), K.lookup a = some o ∧ o.cls = .type "list" ∧ o.dict = none ∧ o.data = .seq its n ∧ its.size ≤ sizeLine ∧ Vals xs its.toList
theorem SqF.l {K : PySem.W.Frag} {H : Hp} {a : Addr} {xs : List V} (h : SqF K H a xs) : SqL K H a xs := h.imp (fun h => .inr h) fun h => h
mutual
inductive RD (K : PySem.W.Frag) (θ : List Addr) (H : Hp) : V → D → Prop
  | v (x : V) : RD K θ H x (.v x)
  | ptr {i : Nat} {a : Addr} (h : θ[i]? = some a) : RD K θ H (.ref a) (.ptr i)
  | tup {a : Addr} {xs : List V} {ds : List D} (h : SqT K H a xs) (r : RDs K θ H xs ds) : RD K θ H (.ref a) (.tup ds)
  | scr {a : Addr} {ns : List Int} (h : SqF K H a (ns.map V.int)) : RD K θ H (.ref a) (.scr ns)
  | fn {f : Addr} {F : NF} {st : Stmt} {name qual : Str} {fr : List Str} {xs : List V} {ds : List D} (hf : H f = some (FnO f F)) (g : GoodF st name qual F) (hc : H F.c = some (LamX.CodeO F.c F.qual)) (c : HasC H F.cl fr xs) (r : RDs K θ H xs ds) : RD K θ H (.ref f) (.fn st name qual fr ds)
  | lfn {f : Addr} {F : NF} {st : Stmt} {name qual : Str} (hf : H f = some (FnO f F)) (g : GoodF st name qual F) (hc : H F.c = some (LamX.CodeO F.c F.qual)) : RD K θ H (.ref f) (.lfn st name qual F.cl)
inductive RDs (K : PySem.W.Frag) (θ : List Addr) (H : Hp) : List V → List D → Prop
  | nil : RDs K θ H [] []
  | cons {x : V} {d : D} {xs : List V} {ds : List D} (h : RD K θ H x d) (t : RDs K θ H xs ds) : RDs K θ H (x :: xs) (d :: ds)
end
/-- tuples and what is only read stay -/
structure Stab (H H' : Hp) : Prop where
  tup : ∀ a xs, H a = some (.tup xs) → H' a = some (.tup xs)
  frz : ∀ a o u, H a = some (.frz o u) → H' a = some (.frz o u)
  ext : ∀ a p, H a = some (.ext p) → H' a = some (.ext p)
theorem Stab.refl (H : Hp) : Stab H H := ⟨fun _ _ h => h, fun _ _ _ h => h, fun _ _ h => h⟩
theorem Stab.trans {H H1 H2 : Hp} (a : Stab H H1) (b : Stab H1 H2) : Stab H H2 := ⟨fun _ _ h => b.tup _ _ (a.tup _ _ h), fun _ _ _ h => b.frz _ _ _ (a.frz _ _ _ h), fun _ _ h => b.ext _ _ (a.ext _ _ h)⟩
theorem HasC.stab {H H' : Hp} {cl : List (Str × Addr)} {fr : List Str} {xs : List V} (h : HasC H cl fr xs) (s : Stab H H') : HasC H' cl fr xs :=
  ⟨h.len, fun i y hy => let ⟨c, x, h1, h2, h3⟩ := h.at_ i y hy; ⟨c, x, h1, h2, s.ext _ _ h3⟩, h.all, h.inj⟩
theorem SqT.stab {K : PySem.W.Frag} {H H' : Hp} {a : Addr} {xs : List V} (h : SqT K H a xs) (s : Stab H H') : SqT K H' a xs := by
  rcases h with (h | ⟨o, h⟩) | h
  · exact .inl (.inl (s.tup _ _ h))
  · exact .inl (.inr ⟨o, s.frz _ _ _ h⟩)
  · exact .inr h
theorem SqF.stab {K : PySem.W.Frag} {H H' : Hp} {a : Addr} {xs : List V} (h : SqF K H a xs) (s : Stab H H') : SqF K H' a xs := by
  rcases h with ⟨o, h⟩ | h
  · exact .inl ⟨o, s.frz _ _ _ h⟩
  · exact .inr h
mutual
theorem RD.stab {K : PySem.W.Frag} {θ t : List Addr} {H H' : Hp} (s : Stab H H') : ∀ {v : V} {d : D}, RD K θ H v d → RD K (θ ++ t) H' v d
  | _, _, .v x => .v x
  | _, _, .ptr h => .ptr (by rw [List.getElem?_append_left (List.getElem?_eq_some_iff.mp h).1]; exact h)
  | _, _, .tup h r => .tup (SqT.stab h s) (RDs.stab s r)
  | _, _, .scr h => .scr (SqF.stab h s)
  | _, _, .fn hf g hc c r => .fn (s.ext _ _ hf) g (s.ext _ _ hc) (c.stab s) (RDs.stab s r)
  | _, _, .lfn hf g hc => .lfn (s.ext _ _ hf) g (s.ext _ _ hc)
theorem RDs.stab {K : PySem.W.Frag} {θ t : List Addr} {H H' : Hp} (s : Stab H H') : ∀ {vs : List V} {ds : List D}, RDs K θ H vs ds → RDs K (θ ++ t) H' vs ds
  | _, _, .nil => .nil
  | _, _, .cons h r => .cons (RD.stab s h) (RDs.stab s r)
end
/-- the objects θ have become θ', the heap H H' -/
structure Ext (θ : List Addr) (H : Hp) (θ' : List Addr) (H' : Hp) : Prop where
  pre : ∃ t, θ' = θ ++ t
  new : ∀ a ∈ θ', a ∈ θ ∨ H a = none
  stay : ∀ b o, b ∉ θ → H b = some o → H' b = some o ∨ ∃ ps o', o = .tbl ps ∧ H' b = some o'
  stab : Stab H H'
theorem Ext.keep {θ θ' : List Addr} {H H' : Hp} (e : Ext θ H θ' H') {b : Addr} {o : HO} (nb : b ∉ θ) (h : H b = some o) (n : ∀ ps, o ≠ .tbl ps) : H' b = some o := by
  rcases e.stay b o nb h with z | ⟨ps, _, e, _⟩
  · exact z
  · exact absurd e (n ps)
theorem Ext.there {θ θ' : List Addr} {H H' : Hp} (e : Ext θ H θ' H') {b : Addr} {o : HO} (nb : b ∉ θ) (h : H b = some o) : H' b ≠ none := by
  rcases e.stay b o nb h with z | ⟨ps, _, _, z⟩ <;> rw [z] <;> exact fun z => nomatch z
theorem Ext.refl (θ : List Addr) (H : Hp) : Ext θ H θ H := ⟨⟨[], by rw [List.append_nil]⟩, fun _ h => .inl h, fun _ _ _ h => .inl h, .refl H⟩
theorem Ext.trans {θ θ1 θ2 : List Addr} {H H1 H2 : Hp} (a : Ext θ H θ1 H1) (b : Ext θ1 H1 θ2 H2) : Ext θ H θ2 H2 := by
  obtain ⟨t, e⟩ := a.pre
  obtain ⟨u, e'⟩ := b.pre
  refine ⟨⟨t ++ u, by rw [e', e, List.append_assoc]⟩, fun x hx => ?_, fun x o nx h => ?_, a.stab.trans b.stab⟩
  · rcases b.new x hx with h | h
    · exact a.new x h
    · by_cases q : x ∈ θ
      · exact .inl q
      · cases e : H x with
        | none => exact .inr rfl
        | some o => exact absurd h (a.there q e)
  · have nx1 : x ∉ θ1 := fun h1 => by
      rcases a.new x h1 with q | q
      · exact nx q
      · rw [h] at q; cases q
    rcases a.stay x o nx h with z | ⟨ps, ps', rfl, z⟩
    · exact b.stay x o nx1 z
    · rcases b.stay x _ nx1 z with z2 | ⟨_, o3, _, z2⟩
      · exact .inr ⟨ps, ps', rfl, z2⟩
      · exact .inr ⟨ps, o3, rfl, z2⟩
theorem RD.ext {K : PySem.W.Frag} {θ θ' : List Addr} {H H' : Hp} {v : V} {d : D} (h : RD K θ H v d) (e : Ext θ H θ' H') : RD K θ' H' v d := by
  obtain ⟨t, rfl⟩ := e.pre
  exact h.stab e.stab
theorem RDs.ext {K : PySem.W.Frag} {θ θ' : List Addr} {H H' : Hp} {v : List V} {d : List D} (h : RDs K θ H v d) (e : Ext θ H θ' H') : RDs K θ' H' v d := by
  obtain ⟨t, rfl⟩ := e.pre
  exact h.stab e.stab
theorem RDs.length {K : PySem.W.Frag} {θ : List Addr} {H : Hp} : ∀ {vs : List V} {ds : List D}, RDs K θ H vs ds → vs.length = ds.length
  | _, _, .nil => rfl
  | _, _, .cons _ t => by rw [List.length_cons, List.length_cons, RDs.length t]
theorem RDs.get {K : PySem.W.Frag} {θ : List Addr} {H : Hp} : ∀ {vs : List V} {ds : List D} {i : Nat} {d : D}, RDs K θ H vs ds → ds[i]? = some d → ∃ v, vs[i]? = some v ∧ RD K θ H v d
  | _, _, 0, _, .cons h _, e => by simp at e; subst e; exact ⟨_, rfl, h⟩
  | _, _, i + 1, _, .cons _ t, e => by
    obtain ⟨v, h1, h2⟩ := RDs.get (i := i) t (by simpa using e)
    exact ⟨v, by simpa using h1, h2⟩
theorem RDs.get' {K : PySem.W.Frag} {θ : List Addr} {H : Hp} : ∀ {vs : List V} {ds : List D} {i : Nat} {v : V}, RDs K θ H vs ds → vs[i]? = some v → ∃ d, ds[i]? = some d ∧ RD K θ H v d
  | _, _, 0, _, .cons h _, e => by simp at e; subst e; exact ⟨_, rfl, h⟩
  | _, _, i + 1, _, .cons _ t, e => by
    obtain ⟨v, h1, h2⟩ := RDs.get' (i := i) t (by simpa using e)
    exact ⟨v, by simpa using h1, h2⟩
theorem RDs.append {K : PySem.W.Frag} {θ : List Addr} {H : Hp} : ∀ {vs vs' : List V} {ds ds' : List D}, RDs K θ H vs ds → RDs K θ H vs' ds' → RDs K θ H (vs ++ vs') (ds ++ ds')
  | _, _, _, _, .nil, h => h
  | _, _, _, _, .cons a t, h => .cons a (RDs.append t h)
theorem RDs.take {K : PySem.W.Frag} {θ : List Addr} {H : Hp} : ∀ {vs : List V} {ds : List D} (n : Nat), RDs K θ H vs ds → RDs K θ H (vs.take n) (ds.take n)
  | _, _, 0, _ => .nil
  | _, _, _ + 1, .nil => .nil
  | _, _, n + 1, .cons a t => .cons a (RDs.take n t)
theorem RDs.drop {K : PySem.W.Frag} {θ : List Addr} {H : Hp} : ∀ {vs : List V} {ds : List D} (n : Nat), RDs K θ H vs ds → RDs K θ H (vs.drop n) (ds.drop n)
  | _, _, 0, h => h
  | _, _, _ + 1, .nil => .nil
  | _, _, n + 1, .cons _ t => RDs.drop n t
theorem RDs.reverse {K : PySem.W.Frag} {θ : List Addr} {H : Hp} : ∀ {vs : List V} {ds : List D}, RDs K θ H vs ds → RDs K θ H vs.reverse ds.reverse
  | _, _, .nil => .nil
  | _, _, .cons a t => by rw [List.reverse_cons, List.reverse_cons]; exact RDs.append (RDs.reverse t) (.cons a .nil)
theorem RDs.set {K : PySem.W.Frag} {θ : List Addr} {H : Hp} {v : V} {d : D} (r : RD K θ H v d) : ∀ {vs : List V} {ds : List D} (i : Nat), RDs K θ H vs ds → RDs K θ H (vs.set i v) (ds.set i d)
  | _, _, _, .nil => .nil
  | _, _, 0, .cons _ t => .cons r t
  | _, _, i + 1, .cons a t => .cons a (RDs.set r i t)
theorem RDs.replicate {K : PySem.W.Frag} {θ : List Addr} {H : Hp} {vs : List V} {ds : List D} (h : RDs K θ H vs ds) : ∀ n : Nat, RDs K θ H (List.replicate n vs).flatten (List.replicate n ds).flatten
  | 0 => .nil
  | n + 1 => by rw [List.replicate_succ, List.replicate_succ, List.flatten_cons, List.flatten_cons]; exact RDs.append h (RDs.replicate h n)
theorem RDs.eraseIdx {K : PySem.W.Frag} {θ : List Addr} {H : Hp} : ∀ {vs : List V} {ds : List D} (n : Nat), RDs K θ H vs ds → RDs K θ H (vs.eraseIdx n) (ds.eraseIdx n)
  | _, _, _, .nil => by simp; exact .nil
  | _, _, 0, .cons a t => t
  | _, _, n + 1, .cons a t => .cons a (RDs.eraseIdx n t)
theorem RDs.dropLast {K : PySem.W.Frag} {θ : List Addr} {H : Hp} {vs : List V} {ds : List D} (h : RDs K θ H vs ds) : RDs K θ H vs.dropLast ds.dropLast := by
  rw [List.dropLast_eq_take, List.dropLast_eq_take, h.length]
  exact h.take _
theorem RDs.scal {K : PySem.W.Frag} {θ : List Addr} {H : Hp} {α : Type} (f : α → V) : ∀ xs : List α, RDs K θ H (xs.map f) (xs.map fun x => D.v (f x))
  | [] => .nil
  | x :: xs => .cons (.v _) (RDs.scal f xs)
/-- the values of scalars -/
theorem RDs.of_scal {K : PySem.W.Frag} {θ : List Addr} {H : Hp} {α : Type} (f : α → V) : ∀ {vs : List V} {xs : List α}, RDs K θ H vs (xs.map fun x => D.v (f x)) → vs = xs.map f
  | _, [], .nil => rfl
  | _, _ :: _, .cons (.v _) t => by rw [RDs.of_scal f t]; rfl

inductive RF (K : PySem.W.Frag) (θ : List Addr) (H : Hp) {κ : Type} : List (κ × V) → List (κ × D) → Prop
  | nil : RF K θ H [] []
  | cons {n : κ} {x : V} {d : D} {xs : List (κ × V)} {ds : List (κ × D)} (h : RD K θ H x d) (t : RF K θ H xs ds) : RF K θ H ((n, x) :: xs) ((n, d) :: ds)
theorem RF.stab {K : PySem.W.Frag} {θ t : List Addr} {H H' : Hp} {κ : Type} (s : Stab H H') : ∀ {vs : List (κ × V)} {ds : List (κ × D)}, RF K θ H vs ds → RF K (θ ++ t) H' vs ds
  | _, _, .nil => .nil
  | _, _, .cons h r => .cons (h.stab s) (RF.stab s r)
theorem RF.length {K : PySem.W.Frag} {θ : List Addr} {H : Hp} {κ : Type} : ∀ {vs : List (κ × V)} {ds : List (κ × D)}, RF K θ H vs ds → vs.length = ds.length
  | _, _, .nil => rfl
  | _, _, .cons _ t => by rw [List.length_cons, List.length_cons, RF.length t]
theorem RF.lookup {K : PySem.W.Frag} {θ : List Addr} {H : Hp} {f : Str} : ∀ {vs : List (Str × V)} {ds : List (Str × D)} {d : D}, RF K θ H vs ds → ds.lookup f = some d → ∃ v, vs.lookup f = some v ∧ RD K θ H v d
  | _, _, d, .cons (n := n) (x := x) (d := e) (xs := xs) (ds := ds) h t, q => by
    rw [List.lookup_cons] at q ⊢
    cases c : f == n with
    | true => simp only [c] at q ⊢; cases q; exact ⟨x, rfl, h⟩
    | false => simp only [c] at q ⊢; exact RF.lookup t q
theorem RF.lookup_none {K : PySem.W.Frag} {θ : List Addr} {H : Hp} {f : Str} : ∀ {vs : List (Str × V)} {ds : List (Str × D)}, RF K θ H vs ds → ds.lookup f = none → vs.lookup f = none
  | _, _, .nil, _ => rfl
  | _, _, .cons (n := n) h t, q => by
    rw [List.lookup_cons] at q ⊢
    cases c : f == n with
    | true => simp only [c] at q; cases q
    | false => simp only [c] at q ⊢; exact RF.lookup_none t q
def putD (f : Str) (v : D) : List (Str × D) → List (Str × D)
  | [] => [(f, v)]
  | (g, w) :: r => if g = f then (g, v) :: r else (g, w) :: putD f v r
def RO (K : PySem.W.Frag) (θ : List Addr) (H : Hp) (a : Addr) : O → Prop
  | .lst ds => ∃ xs, H a = some (.lst xs) ∧ RDs K θ H xs ds
  | .ins C fs => ∃ dx xs, H a = some (.ins C dx xs) ∧ H dx = some (.own a) ∧ RF K θ H xs fs
  | .dK kvs => ∃ xs, H a = some (.dK xs) ∧ RF K θ H xs kvs
  | .raw u => H a = some u ∧ Mu (some u) ∧ ∀ ps, u ≠ .tbl ps
  | .tab P nm => a = P ∧ TabN H P nm
structure RA (K : PySem.W.Frag) (θ : List Addr) (H : Hp) (A : OH) : Prop where
  len : θ.length = A.length
  nd : θ.Nodup
  ok : ∀ (i : Nat) (a : Addr) (o : O), θ[i]? = some a → A[i]? = some o → RO K θ H a o
theorem RO.mut {K : PySem.W.Frag} {θ : List Addr} {H : Hp} {a : Addr} {o : O} (h : RO K θ H a o) : ∃ u, H a = some u ∧ Mu (some u) := by
  cases o with
  | lst ds => obtain ⟨xs, h, _⟩ := h; exact ⟨_, h, True.intro⟩
  | ins C fs => obtain ⟨dx, xs, h, _⟩ := h; exact ⟨_, h, True.intro⟩
  | dK kvs => obtain ⟨xs, h, _⟩ := h; exact ⟨_, h, True.intro⟩
  | raw u => exact ⟨u, h.1, h.2.1⟩
  | tab P nm => obtain ⟨rfl, ps, h, _⟩ := h; exact ⟨_, h, True.intro⟩
theorem RA.mut {K : PySem.W.Frag} {θ : List Addr} {H : Hp} {A : OH} (r : RA K θ H A) {a : Addr} (h : a ∈ θ) : ∃ u, H a = some u ∧ Mu (some u) := by
  obtain ⟨i, hi, e⟩ := List.mem_iff_getElem.mp h
  have h1 : θ[i]? = some a := by rw [List.getElem?_eq_getElem hi, e]
  have hi' : i < A.length := by rw [← r.len]; exact hi
  have h2 : A[i]? = some A[i] := List.getElem?_eq_getElem hi'
  exact (r.ok i a _ h1 h2).mut
theorem RA.at {K : PySem.W.Frag} {θ : List Addr} {H : Hp} {A : OH} (r : RA K θ H A) {i : Nat} {o : O} (h : A[i]? = some o) : ∃ a, θ[i]? = some a ∧ RO K θ H a o := by
  have hi : i < θ.length := by rw [r.len]; exact (List.getElem?_eq_some_iff.mp h).1
  exact ⟨θ[i], List.getElem?_eq_getElem hi, r.ok i _ o (List.getElem?_eq_getElem hi) h⟩
theorem RO.stab {K : PySem.W.Frag} {θ t : List Addr} {H H' : Hp} {a : Addr} {o : O} (h : RO K θ H a o) (s : Stab H H') (ha : H' a = H a) (hd : ∀ dx, H dx = some (.own a) → H' dx = some (.own a)) : RO K (θ ++ t) H' a o := by
  cases o with
  | lst ds => obtain ⟨xs, h, r⟩ := h; exact ⟨xs, by rw [ha]; exact h, r.stab s⟩
  | ins C fs => obtain ⟨dx, xs, h, d, r⟩ := h; exact ⟨dx, xs, by rw [ha]; exact h, hd dx d, r.stab s⟩
  | dK kvs => obtain ⟨xs, h, r⟩ := h; exact ⟨xs, by rw [ha]; exact h, r.stab s⟩
  | raw u => exact ⟨by rw [ha]; exact h.1, h.2⟩
  | tab P nm =>
    obtain ⟨rfl, ps, h1, h2, h3⟩ := h
    exact ⟨rfl, ps, by rw [ha]; exact h1, h2, fun pos cv e => let ⟨c, e1, e2⟩ := h3 pos cv e; ⟨c, e1, s.ext _ _ e2⟩⟩
/-- a new thing that is not numbered -/
theorem stab_new {H : Hp} {p : Addr} {o : HO} (h : H p = none) : Stab H (upd H p o) :=
  ⟨fun a xs e => by rw [upd_ne (ne_of_none e h)]; exact e, fun a o u e => by rw [upd_ne (ne_of_none e h)]; exact e, fun a p e => by rw [upd_ne (ne_of_none e h)]; exact e⟩
theorem Ext.new0 {θ : List Addr} {H : Hp} {p : Addr} {o : HO} (h : H p = none) : Ext θ H θ (upd H p o) :=
  ⟨⟨[], by rw [List.append_nil]⟩, fun _ h => .inl h, fun b u _ e => .inl (by rw [upd_ne (ne_of_none e h)]; exact e), stab_new h⟩
theorem RA.new0 {K : PySem.W.Frag} {θ : List Addr} {H : Hp} {A : OH} {p : Addr} {u : HO} (r : RA K θ H A) (h : H p = none) : RA K θ (upd H p u) A :=
  ⟨r.len, r.nd, fun i a o h1 h2 => by
    have q := (r.ok i a o h1 h2)
    obtain ⟨u', hu, _⟩ := q.mut
    have := q.stab (t := []) (stab_new (o := u) h) (by rw [upd_ne (ne_of_none hu h)]) fun dx e => by rw [upd_ne (ne_of_none e h)]; exact e
    rw [List.append_nil] at this
    exact this⟩
theorem Ext.same {θ : List Addr} {H H' : Hp} (s : Same H H') : Ext θ H θ H' :=
  ⟨⟨[], by rw [List.append_nil]⟩, fun _ h => .inl h, fun b u _ e => .inl (s _ _ e), fun _ _ e => s _ _ e, fun _ _ _ e => s _ _ e, fun _ _ e => s _ _ e⟩
theorem RA.same {K : PySem.W.Frag} {θ : List Addr} {H H' : Hp} {A : OH} (r : RA K θ H A) (s : Same H H') : RA K θ H' A :=
  ⟨r.len, r.nd, fun i a o h1 h2 => by
    have q := (r.ok i a o h1 h2)
    obtain ⟨u', hu, _⟩ := q.mut
    have := q.stab (t := []) (Ext.same (θ := θ) s).stab (by rw [hu, s _ _ hu]) fun dx e => s _ _ e
    rw [List.append_nil] at this
    exact this⟩
/-- a new object, numbered -/
theorem RA.add {K : PySem.W.Frag} {θ : List Addr} {H H' : Hp} {A : OH} {p : Addr} {o : O} (r : RA K θ H A) (h : H p = none) (s : Same H H') (new : RO K (θ ++ [p]) H' p o) : RA K (θ ++ [p]) H' (A ++ [o]) := by
  refine ⟨by rw [List.length_append, List.length_append, r.len]; rfl, ?_, fun i a o' h1 h2 => ?_⟩
  · rw [List.nodup_append]
    refine ⟨r.nd, by simp, fun a ha b hb => ?_⟩
    rw [List.mem_singleton.mp hb]
    obtain ⟨u, hu, _⟩ := r.mut ha
    exact ne_of_none hu h
  · by_cases hi : i < θ.length
    · rw [List.getElem?_append_left hi] at h1
      rw [List.getElem?_append_left (by rw [← r.len]; exact hi)] at h2
      have q := r.ok i a o' h1 h2
      obtain ⟨u', hu, _⟩ := q.mut
      exact q.stab (Ext.same (θ := θ) s).stab (by rw [hu, s _ _ hu]) fun dx e => s _ _ e
    · rw [List.getElem?_append_right (by omega)] at h1
      rw [List.getElem?_append_right (by rw [← r.len]; omega)] at h2
      have e : i - θ.length = 0 := by
        have := (List.getElem?_eq_some_iff.mp h1).1
        simp at this
        omega
      rw [e] at h1
      rw [← r.len, e] at h2
      simp at h1 h2
      subst h1 h2
      exact new
theorem Ext.add {θ : List Addr} {H H' : Hp} {p : Addr} (h : H p = none) (s : Same H H') : Ext θ H (θ ++ [p]) H' :=
  ⟨⟨[p], rfl⟩, fun a ha => by
    rcases List.mem_append.mp ha with q | q
    · exact .inl q
    · rw [List.mem_singleton.mp q]; exact .inr h, fun b u _ e => .inl (s _ _ e), fun _ _ e => s _ _ e, fun _ _ _ e => s _ _ e, fun _ _ e => s _ _ e⟩
/-- a numbered object is written -/
theorem stab_put {H : Hp} {a : Addr} {u : HO} (mu : Mu (H a)) : Stab H (upd H a u) :=
  ⟨fun b xs e => by rw [upd_ne fun z => by subst z; rw [e] at mu; exact mu]; exact e, fun b o w e => by rw [upd_ne fun z => by subst z; rw [e] at mu; exact mu]; exact e, fun b p e => by rw [upd_ne fun z => by subst z; rw [e] at mu; exact mu]; exact e⟩
theorem Ext.put {θ : List Addr} {H : Hp} {a : Addr} {u : HO} (h : a ∈ θ) (mu : Mu (H a)) : Ext θ H θ (upd H a u) :=
  ⟨⟨[], by rw [List.append_nil]⟩, fun _ h => .inl h, fun b w nb e => .inl (by rw [upd_ne fun z => nb (by rw [z]; exact h)]; exact e), stab_put mu⟩
theorem RA.put {K : PySem.W.Frag} {θ : List Addr} {H : Hp} {A : OH} {i : Nat} {a : Addr} {u : HO} {o o' : O} (r : RA K θ H A) (h : θ[i]? = some a) (ho : A[i]? = some o) (mu : Mu (H a)) (new : RO K θ (upd H a u) a o') : RA K θ (upd H a u) (A.set i o') := by
  refine ⟨by rw [List.length_set]; exact r.len, r.nd, fun j b w h1 h2 => ?_⟩
  by_cases e : i = j
  · subst e
    rw [h] at h1
    cases h1
    rw [List.getElem?_set_self (List.getElem?_eq_some_iff.mp ho).1] at h2
    cases h2
    exact new
  · rw [List.getElem?_set_ne e] at h2
    have ne : b ≠ a := fun z => by
      subst z
      obtain ⟨hi, e1⟩ := List.getElem?_eq_some_iff.mp h
      obtain ⟨hj, e2⟩ := List.getElem?_eq_some_iff.mp h1
      exact e ((List.getElem_inj r.nd).mp (e1.trans e2.symm))
    have q := (r.ok j b w h1 h2).stab (t := []) (stab_put (u := u) mu) (by rw [upd_ne ne]) fun dx e => by rw [upd_ne fun z => by subst z; rw [e] at mu; exact mu]; exact e
    rw [List.append_nil] at q
    exact q
theorem RD.stab0 {K : PySem.W.Frag} {θ : List Addr} {H H' : Hp} {v : V} {d : D} (h : RD K θ H v d) (s : Stab H H') : RD K θ H' v d := by
  have := h.stab (t := []) s
  rw [List.append_nil] at this
  exact this
theorem RDs.stab0 {K : PySem.W.Frag} {θ : List Addr} {H H' : Hp} {v : List V} {d : List D} (h : RDs K θ H v d) (s : Stab H H') : RDs K θ H' v d := by
  have := h.stab (t := []) s
  rw [List.append_nil] at this
  exact this
theorem RF.stab0 {κ : Type} {K : PySem.W.Frag} {θ : List Addr} {H H' : Hp} {v : List (κ × V)} {d : List (κ × D)} (h : RF K θ H v d) (s : Stab H H') : RF K θ H' v d := by
  have := h.stab (t := []) s
  rw [List.append_nil] at this
  exact this
/-! ### slots -/
inductive RV (K : PySem.W.Frag) (θ : List Addr) (H : Hp) : Option V → Option D → Prop
  | none : RV K θ H none none
  | some {x : V} {d : D} (h : RD K θ H x d) : RV K θ H (some x) (some d)
inductive RS (K : PySem.W.Frag) (θ : List Addr) (H : Hp) : L2.St → SH → Prop
  | nil : RS K θ H [] []
  | cons {x : Option V} {d : Option D} {xs : L2.St} {ds : SH} (h : RV K θ H x d) (t : RS K θ H xs ds) : RS K θ H (x :: xs) (d :: ds)
theorem RV.ext {K : PySem.W.Frag} {θ θ' : List Addr} {H H' : Hp} {x : Option V} {d : Option D} (h : RV K θ H x d) (e : Ext θ H θ' H') : RV K θ' H' x d := by
  cases h with
  | none => exact .none
  | some h => exact .some (h.ext e)
theorem RS.ext {K : PySem.W.Frag} {θ θ' : List Addr} {H H' : Hp} (e : Ext θ H θ' H') : ∀ {σ : L2.St} {σh : SH}, RS K θ H σ σh → RS K θ' H' σ σh
  | _, _, .nil => .nil
  | _, _, .cons h t => .cons (h.ext e) (RS.ext e t)
theorem RS.get {K : PySem.W.Frag} {θ : List Addr} {H : Hp} : ∀ {σ : L2.St} {σh : SH} {i : Nat} {d : D}, RS K θ H σ σh → σh[i]? = some (some d) → ∃ v, σ[i]? = some (some v) ∧ RD K θ H v d
  | _, _, 0, _, .cons h _, e => by
    simp at e
    subst e
    cases h with
    | some h => exact ⟨_, rfl, h⟩
  | _, _, i + 1, _, .cons _ t, e => by
    obtain ⟨v, h1, h2⟩ := RS.get (i := i) t (by simpa using e)
    exact ⟨v, by simpa using h1, h2⟩
theorem RS.set {K : PySem.W.Frag} {θ : List Addr} {H : Hp} {v : Option V} {d : Option D} (r : RV K θ H v d) : ∀ {σ : L2.St} {σh : SH} (i : Nat), RS K θ H σ σh → RS K θ H (σ.set i v) (σh.set i d)
  | _, _, _, .nil => .nil
  | _, _, 0, .cons _ t => .cons r t
  | _, _, i + 1, .cons a t => .cons a (RS.set r i t)
theorem RS.append {K : PySem.W.Frag} {θ : List Addr} {H : Hp} : ∀ {σ σ' : L2.St} {ds ds' : SH}, RS K θ H σ ds → RS K θ H σ' ds' → RS K θ H (σ ++ σ') (ds ++ ds')
  | _, _, _, _, .nil, h => h
  | _, _, _, _, .cons a t, h => .cons a (RS.append t h)
theorem RS.of {K : PySem.W.Frag} {θ : List Addr} {H : Hp} : ∀ {vs : List V} {ds : List D}, RDs K θ H vs ds → RS K θ H (vs.map some) (ds.map some)
  | _, _, .nil => .nil
  | _, _, .cons h t => .cons (.some h) (RS.of t)
theorem RS.nones {K : PySem.W.Frag} {θ : List Addr} {H : Hp} : ∀ n : Nat, RS K θ H (List.replicate n none) (List.replicate n none)
  | 0 => .nil
  | n + 1 => .cons .none (RS.nones n)
def startH (n : Nat) (ds : List D) : SH := ds.map some ++ List.replicate (n - ds.length) none
theorem RS.start {K : PySem.W.Frag} {θ : List Addr} {H : Hp} {N : List Str} {vs : List V} {ds : List D} (h : RDs K θ H vs ds) : RS K θ H (L2.start N vs) (startH N.length ds) := by
  unfold L2.start startH
  rw [h.length]
  exact RS.append (.of h) (.nones _)
def wipeH (σ : SH) : List Nat → SH
  | [] => σ
  | v :: vs => (wipeH σ vs).set v none
theorem RS.wipe {K : PySem.W.Frag} {θ : List Addr} {H : Hp} {σ : L2.St} {σh : SH} (h : RS K θ H σ σh) : ∀ vs : List Nat, RS K θ H (L2.wipe σ vs) (wipeH σh vs)
  | [] => h
  | v :: vs => RS.set .none v (RS.wipe h vs)
end Rp

/-! Expressions over data. -/
namespace Rp
open PySem PySem.Spec PyProof.Rows L2
abbrev TEh := SH → OH → KH → Prop
abbrev TTh := SH → OH → (Bool → OH → Prop) → Prop
abbrev TAh := SH → OH → (List D → OH → Prop) → Prop
abbrev TOh := SH → OH → (Option Int → OH → Prop) → Prop
/-- what is wanted of a value: by data -/
def Kt (K : PySem.W.Frag) (θ : List Addr) (H : Hp) (Q : VK) (Qh : KH) : Prop := ∀ θ' H' A' v d, Ext θ H θ' H' → RA K θ' H' A' → RD K θ' H' v d → Qh d A' → Q v H'
def lift (K : PySem.W.Frag) (t : TEh) : TE := fun σ H Q => ∃ θ σh A Qh, RS K θ H σ σh ∧ RA K θ H A ∧ t σh A Qh ∧ Kt K θ H Q Qh
def liftT (K : PySem.W.Frag) (t : TTh) : TT := fun σ H Q => ∃ θ σh A Qh, RS K θ H σ σh ∧ RA K θ H A ∧ t σh A Qh ∧ ∀ θ' H' A' b, Ext θ H θ' H' → RA K θ' H' A' → Qh b A' → Q b H'
def liftA (K : PySem.W.Frag) (t : TAh) : TA := fun σ H Q => ∃ θ σh A Qh, RS K θ H σ σh ∧ RA K θ H A ∧ t σh A Qh ∧ ∀ θ' H' A' vs ds, Ext θ H θ' H' → RA K θ' H' A' → RDs K θ' H' vs ds → Qh ds A' → Q vs H'
def liftO (K : PySem.W.Frag) (t : TOh) : TO := fun σ H Q => ∃ θ σh A Qh, RS K θ H σ σh ∧ RA K θ H A ∧ t σh A Qh ∧ ∀ θ' H' A' o, Ext θ H θ' H' → RA K θ' H' A' → Qh o A' → Q o H'
section
variable {X : Cx} {e : Expr} {t t' : TE}
theorem _root_.L2.PE.imp (h : PE X e t) (f : ∀ σ H Q, t' σ H Q → t σ H Q) : PE X e t' := ⟨fun pins s σ H Q I w => h.run pins s σ H Q I (f σ H Q w)⟩
theorem _root_.L2.PT.imp {t t' : TT} (h : PT X e t) (f : ∀ σ H Q, t' σ H Q → t σ H Q) : PT X e t' := ⟨fun pins s σ H Q I w => h.run pins s σ H Q I (f σ H Q w)⟩
theorem _root_.L2.PW.imp {t t' : TT} (h : PW X e t) (f : ∀ σ H Q, t' σ H Q → t σ H Q) : PW X e t' := ⟨fun whole pins s σ H Q I w => h.run whole pins s σ H Q I (f σ H Q w)⟩
theorem _root_.L2.PA.imp {es : List Expr} {t t' : TA} (h : PA X es t) (f : ∀ σ H Q, t' σ H Q → t σ H Q) : PA X es t' := ⟨fun pos pins s σ H Q I w => h.run pos pins s σ H Q I (f σ H Q w)⟩
theorem _root_.L2.PO.imp {eo : Option Expr} {t t' : TO} (h : PO X eo t) (f : ∀ σ H Q, t' σ H Q → t σ H Q) : PO X eo t' := ⟨fun pins s σ H Q I w => h.run pins s σ H Q I (f σ H Q w)⟩
end
theorem Kt.here {K : PySem.W.Frag} {θ : List Addr} {H : Hp} {A : OH} {Q : VK} {Qh : KH} {v : V} {d : D} (k : Kt K θ H Q Qh) (ra : RA K θ H A) (r : RD K θ H v d) (q : Qh d A) : Q v H := k _ _ _ _ _ (.refl _ _) ra r q
theorem Kt.ext {K : PySem.W.Frag} {θ θ' : List Addr} {H H' : Hp} {Q : VK} {Qh : KH} (k : Kt K θ H Q Qh) (e : Ext θ H θ' H') : Kt K θ' H' Q Qh := fun _ _ _ _ _ e' ra r q => k _ _ _ _ _ (e.trans e') ra r q
/-- a new object is numbered -/
structure New (A : OH) (k : Nat) (o : O) (A' : OH) : Prop where
  eq : k = A.length
  eq' : A' = A ++ [o]
theorem New.get {A : OH} {k : Nat} {o : O} {A' : OH} (n : New A k o A') : A'[k]? = some o := by
  rw [n.eq', n.eq]; simp
theorem New.old {A : OH} {k : Nat} {o : O} {A' : OH} (n : New A k o A') {i : Nat} {u : O} (h : A[i]? = some u) : A'[i]? = some u := by
  rw [n.eq', List.getElem?_append_left (List.getElem?_eq_some_iff.mp h).1]; exact h
theorem New.ne {A : OH} {k : Nat} {o : O} {A' : OH} (n : New A k o A') {i : Nat} {u : O} (h : A[i]? = some u) : i ≠ k := by
  have := (List.getElem?_eq_some_iff.mp h).1
  have := n.eq
  omega
structure Put (A : OH) (k : Nat) (o : O) (A' : OH) : Prop where
  lt : k < A.length
  eq' : A' = A.set k o
theorem Put.get {A : OH} {k : Nat} {o : O} {A' : OH} (n : Put A k o A') : A'[k]? = some o := by
  rw [n.eq', List.getElem?_set_self n.lt]
theorem Put.old {A : OH} {k : Nat} {o : O} {A' : OH} (n : Put A k o A') {i : Nat} {u : O} (hi : i ≠ k) (h : A[i]? = some u) : A'[i]? = some u := by
  rw [n.eq', List.getElem?_set_ne (Ne.symm hi)]; exact h
def NewQ (A : OH) (o : O) (Q : KH) : Prop := ∀ k A', New A k o A' → Q (.ptr k) A'
def PutQ (A : OH) (k : Nat) (o : O) (Q : OH → Prop) : Prop := ∀ A', Put A k o A' → Q A'
section
variable {K : PySem.W.Frag} {θ : List Addr} {H : Hp} {A : OH} {Q : VK} {Qh : KH} {xs : List V} {ds : List D} {p : Addr}
theorem Kt.lst (k : Kt K θ H Q Qh) (ra : RA K θ H A) (r : RDs K θ H xs ds) (h : NewQ A (.lst ds) Qh) (hp : H p = none) : Q (.ref p) (upd H p (.lst xs)) := by
  have s : Same H (upd H p (.lst xs)) := fun b u e => by rw [upd_ne (ne_of_none e hp)]; exact e
  refine k (θ ++ [p]) _ (A ++ [.lst ds]) _ (.ptr A.length) (.add hp s) (ra.add (o := .lst ds) hp s ⟨xs, upd_same, r.ext (.add hp s)⟩) (.ptr ?_) (h _ _ ⟨rfl, rfl⟩)
  rw [← ra.len]; simp
theorem Kt.tup (k : Kt K θ H Q Qh) (ra : RA K θ H A) (r : RDs K θ H xs ds) (h : Qh (.tup ds) A) (hp : H p = none) : Q (.ref p) (upd H p (.tup xs)) :=
  k θ _ A _ (.tup ds) (.new0 hp) (ra.new0 hp) (.tup (SqT.of upd_same) (r.stab0 (stab_new hp))) h
/-- a list that stands in θ is written -/
theorem RA.putL {i : Nat} {a : Addr} {ds' : List D} {ys : List V} (ra : RA K θ H A) (ha : θ[i]? = some a) (ho : A[i]? = some (.lst ds)) (r : RDs K θ H ys ds') : RA K θ (upd H a (.lst ys)) (A.set i (.lst ds')) ∧ Ext θ H θ (upd H a (.lst ys)) ∧ Put A i (.lst ds') (A.set i (.lst ds')) := by
  obtain ⟨xs, h, _⟩ := ra.ok i a _ ha ho
  have mu : Mu (H a) := by rw [h]; exact True.intro
  exact ⟨ra.put ha ho mu ⟨ys, upd_same, r.stab0 (stab_put mu)⟩, .put (List.mem_of_getElem? ha) mu, (List.getElem?_eq_some_iff.mp ho).1, rfl⟩
end
/-! ### names, constants -/
def getS (σ : SH) (i : Nat) (k : D → Prop) : Prop := match σ[i]? with | some (some d) => k d | _ => False
def hVar (i : Nat) : TEh := fun σ A Q => getS σ i fun d => Q d A
def hC (d : D) : TEh := fun _ A Q => Q d A
section
variable {X : Cx} {e a b c : Expr} {es : List Expr} {x : Str} {pos p p2 : Pos}
theorem getS_ok {K : PySem.W.Frag} {θ : List Addr} {H : Hp} {σ : L2.St} {σh : SH} {i : Nat} {k : D → Prop} (rs : RS K θ H σ σh) (h : getS σh i k) : ∃ v d, σ[i]? = some (some v) ∧ RD K θ H v d ∧ k d := by
  unfold getS at h
  split at h
  · rename_i d e
    obtain ⟨v, h1, h2⟩ := rs.get e
    exact ⟨v, d, h1, h2, h⟩
  · exact h.elim
theorem ph_var {i : Nat} (h : PE X (.Name x pos) (tVar i)) : PE X (.Name x pos) (lift X.K (hVar i)) := h.imp fun σ H Q ⟨θ, σh, A, Qh, rs, ra, w, k⟩ => by
  obtain ⟨v, d, h1, h2, h3⟩ := getS_ok rs w
  exact ⟨v, h1, k.here ra h2 h3⟩
theorem ph_c {v : V} (h : PE X e (tC v)) : PE X e (lift X.K (hC (.v v))) := h.imp fun σ H Q ⟨θ, σh, A, Qh, rs, ra, w, k⟩ => k.here ra (.v v) w
/-! ### argument lists, tuples, lists -/
def hNil : TAh := fun _ A Q => Q [] A
def hCons (t : TEh) (u : TAh) : TAh := fun σ A Q => t σ A fun d A1 => u σ A1 fun ds A2 => Q (d :: ds) A2
theorem pah_nil : PA X [] (liftA X.K hNil) := pa_nil.imp fun σ H Q ⟨θ, σh, A, Qh, rs, ra, w, k⟩ => k _ _ _ _ _ (.refl _ _) ra .nil w
theorem pah_cons {t : TEh} {u : TAh} (ha : PE X e (lift X.K t)) (hr : PA X es (liftA X.K u)) (hs : starEach (e :: es) X.env = (false, eval e X.env) :: starEach es X.env := by rfl) : PA X (e :: es) (liftA X.K (hCons t u)) :=
  (pa_cons ha hr hs).imp fun σ H Q ⟨θ, σh, A, Qh, rs, ra, w, k⟩ => ⟨θ, σh, A, _, rs, ra, w, fun θ1 H1 A1 v d e1 ra1 r1 w1 => ⟨θ1, σh, A1, _, rs.ext e1, ra1, w1, fun θ2 H2 A2 vs ds e2 ra2 r2 w2 =>
    k _ _ _ _ _ (e1.trans e2) ra2 (.cons (r1.ext e2) r2) w2⟩⟩
/-- few enough -/
def few (n : Nat) (p : Prop) : Prop := match Nat.ble n 100000 with | true => p | false => False
theorem few_ok {n : Nat} {p : Prop} (h : few n p) : n ≤ sizeLine ∧ p := by
  unfold few at h
  split at h
  · rename_i e
    have := Nat.le_of_ble_eq_true e
    have ez : sizeLine = 16777216 := sizeLine_eq
    exact ⟨by omega, h⟩
  · exact h.elim
theorem few_of {n : Nat} {p : Prop} (h : n ≤ 100000) (q : p) : few n p := by
  unfold few
  rw [Nat.ble_eq_true_of_le h]
  exact q
def hTup (t : TAh) : TEh := fun σ A Q => t σ A fun ds A1 => few ds.length (Q (.tup ds) A1)
def hLst (t : TAh) : TEh := fun σ A Q => t σ A fun ds A1 => few ds.length (NewQ A1 (.lst ds) Q)
theorem ph_tup {x1} {t : TAh} (h : PA X es (liftA X.K t)) : PE X (.Tuple es x1 pos) (lift X.K (hTup t)) :=
  (pe_tup h).imp fun σ H Q ⟨θ, σh, A, Qh, rs, ra, w, k⟩ => ⟨θ, σh, A, _, rs, ra, w, fun θ1 H1 A1 vs ds e1 ra1 r1 w1 => by
    obtain ⟨z, w1⟩ := few_ok w1
    exact ⟨by rw [r1.length]; exact z, fun p hp => (k.ext e1).tup ra1 r1 w1 hp⟩⟩
theorem ph_lst {t : TAh} (h : PA X es (liftA X.K t)) : PE X (.List es pos) (lift X.K (hLst t)) :=
  (pe_lst h).imp fun σ H Q ⟨θ, σh, A, Qh, rs, ra, w, k⟩ => ⟨θ, σh, A, _, rs, ra, w, fun θ1 H1 A1 vs ds e1 ra1 r1 w1 => by
    obtain ⟨z, w1⟩ := few_ok w1
    exact ⟨by rw [r1.length]; exact z, fun p hp => (k.ext e1).lst ra1 r1 w1 hp⟩⟩
/-! ### two-place operations -/
abbrev R2h := D → D → OH → KH → Prop
def hOp (r : R2h) (ta tb : TEh) : TEh := fun σ A Q => ta σ A fun x A1 => tb σ A1 fun y A2 => r x y A2 Q
def LR (K : PySem.W.Frag) (r : R2) (rh : R2h) : Prop := ∀ θ H A x y d e Q Qh, RD K θ H x d → RD K θ H y e → RA K θ H A → rh d e A Qh → Kt K θ H Q Qh → r x y H Q
theorem lift_op {K : PySem.W.Frag} {r : R2} {rh : R2h} {ta tb : TEh} (l : LR K r rh) (σ : L2.St) (H : Hp) (Q : VK) : lift K (hOp rh ta tb) σ H Q → tOp r (lift K ta) (lift K tb) σ H Q :=
  fun ⟨θ, σh, A, Qh, rs, ra, w, k⟩ => ⟨θ, σh, A, _, rs, ra, w, fun θ1 H1 A1 x d e1 ra1 r1 w1 => ⟨θ1, σh, A1, _, rs.ext e1, ra1, w1, fun θ2 H2 A2 y e e2 ra2 r2 w2 =>
    l _ _ _ _ _ _ _ _ _ (r1.ext e2) r2 ra2 w2 ((k.ext e1).ext e2)⟩⟩
theorem ph_op {op : Operator} {r : R2} {rh : R2h} {ta tb : TEh} (l : LR X.K r rh) (ho : OpR X (binaryOp op) r) (ha : PE X a (lift X.K ta)) (hb : PE X b (lift X.K tb)) : PE X (.BinOp a op b pos) (lift X.K (hOp rh ta tb)) :=
  (pe_op ho ha hb).imp (lift_op l)
theorem ph_cmp {op : CmpOp} {r : R2} {rh : R2h} {ta tb : TEh} (l : LR X.K r rh) (ho : OpR X (compareOp op) r) (ha : PE X a (lift X.K ta)) (hb : PE X b (lift X.K tb)) (hm : behindInMarks op b = false) : PE X (.Compare a [op] [b] pos) (lift X.K (hOp rh ta tb)) :=
  (pe_cmpR ho ha hb hm).imp (lift_op l)
theorem ph_ix {r : R2} {rh : R2h} {ta tb : TEh} (l : LR X.K r rh) (hr : IxR X r) (ha : PE X a (lift X.K ta)) (hb : PE X b (lift X.K tb)) (hs : PlainIx b) : PE X (.Subscript a b pos) (lift X.K (hOp rh ta tb)) :=
  (pe_ix hr ha hb hs).imp (lift_op l)
theorem LR.or {K : PySem.W.Frag} {r r' : R2} {rh : R2h} (h : ∀ θ H A x y d e Q Qh, RD K θ H x d → RD K θ H y e → RA K θ H A → rh d e A Qh → Kt K θ H Q Qh → r x y H Q ∨ r' x y H Q) : LR K (fun x y H Q => r x y H Q ∨ r' x y H Q) rh := h
/-- + of whole numbers, texts, tuples, lists -/
def hAdd : R2h
  | .v (.int i), .v (.int j), A, Q => Q (.v (.int (i + j))) A
  | .v (.str x), .v (.str y), A, Q => x.length + y.length ≤ sizeLine ∧ Q (.v (.str (x ++ y))) A
  | .tup ds, .tup es, A, Q => ds.length + es.length ≤ sizeLine ∧ Q (.tup (ds ++ es)) A
  | .ptr i, .ptr j, A, Q => ∃ ds es, A[i]? = some (.lst ds) ∧ A[j]? = some (.lst es) ∧ ds.length + es.length ≤ sizeLine ∧ NewQ A (.lst (ds ++ es)) Q
  | _, _, _, _ => False
def rAddA (K : PySem.W.Frag) : R2 := fun x y H Q => rI0 (fun i j => .int (i + j)) x y H Q ∨ (∃ i j, x = .str i ∧ y = .str j ∧ i.length + j.length ≤ sizeLine ∧ Q (.str (i ++ j)) H) ∨ rCatA K x y H Q ∨ rCat x y H Q
theorem op_addA : OpR X (binaryOp .Add) (rAddA X.K) := op_add.or (op_add_str.or (op_catA.or op_cat))
theorem l_add {K : PySem.W.Frag} : LR K (rAddA K) hAdd := by
  intro θ H A x y d e Q Qh rd re ra w k
  unfold hAdd at w
  split at w
  · cases rd; cases re; exact .inl ⟨_, _, rfl, rfl, k.here ra (.v _) w⟩
  · cases rd; cases re; exact .inr (.inl ⟨_, _, rfl, rfl, w.1, k.here ra (.v _) w.2⟩)
  · cases rd with
    | @tup a xs ds h r =>
      cases re with
      | @tup b ys es h' r' =>
        refine .inr (.inr (.inl ⟨a, b, xs, ys, rfl, rfl, h, h', by rw [r.length, r'.length]; exact w.1, fun e => ?_, fun _ e => ?_, fun _ _ p hp => k.tup ra (r.append r') w.2 hp⟩))
        · subst e
          cases r
          exact k.here ra (.tup h' r') w.2
        · subst e
          cases r'
          rw [List.append_nil] at w
          exact k.here ra (.tup h r) w.2
  · obtain ⟨ds, es, h1, h2, hz, q⟩ := w
    cases rd with
    | ptr hi =>
      cases re with
      | ptr hj =>
        obtain ⟨xs, g1, r1⟩ := ra.ok _ _ _ hi h1
        obtain ⟨ys, g2, r2⟩ := ra.ok _ _ _ hj h2
        exact .inr (.inr (.inr ⟨_, _, xs, ys, rfl, rfl, g1, g2, by rw [r1.length, r2.length]; exact hz, fun p hp => k.lst ra (r1.append r2) q hp⟩))
  · exact w.elim
def hSub : R2h
  | .v (.int i), .v (.int j), A, Q => Q (.v (.int (i - j))) A
  | _, _, _, _ => False
theorem l_sub {K : PySem.W.Frag} : LR K (rI0 fun i j => .int (i - j)) hSub := by
  intro θ H A x y d e Q Qh rd re ra w k
  unfold hSub at w
  split at w
  · cases rd; cases re; exact ⟨_, _, rfl, rfl, k.here ra (.v _) w⟩
  · exact w.elim
/-- * of whole numbers (one of them small), of a list by a number -/
def hMul : R2h
  | .v (.int i), .v (.int j), A, Q => CMul i j ∧ Q (.v (.int (i * j))) A
  | .ptr i, .v (.int k), A, Q => ∃ ds, A[i]? = some (.lst ds) ∧ -(2 ^ 63) ≤ k ∧ k < 2 ^ 63 ∧ ds.length * k.toNat ≤ sizeLine ∧ NewQ A (.lst (List.replicate k.toNat ds).flatten) Q
  | _, _, _, _ => False
def rMulA : R2 := fun x y H Q => rI CMul (fun i j => .int (i * j)) x y H Q ∨ rRep x y H Q
theorem op_mulA : OpR X (binaryOp .Mult) rMulA := op_mul.or op_rep
theorem l_mul {K : PySem.W.Frag} : LR K rMulA hMul := by
  intro θ H A x y d e Q Qh rd re ra w k
  unfold hMul at w
  split at w
  · cases rd; cases re; exact .inl ⟨_, _, rfl, rfl, w.1, k.here ra (.v _) w.2⟩
  · obtain ⟨ds, h1, h2, h3, h4, q⟩ := w
    cases rd with
    | ptr hi =>
      cases re
      obtain ⟨xs, g1, r1⟩ := ra.ok _ _ _ hi h1
      exact .inr ⟨_, _, xs, rfl, rfl, g1, h2, h3, by rw [r1.length]; exact h4, fun p hp => k.lst ra (r1.replicate _) q hp⟩
  · exact w.elim
def hMod : R2h
  | .v (.int i), .v (.int j), A, Q => 0 < j ∧ Q (.v (.int (i % j))) A
  | _, _, _, _ => False
theorem l_mod {K : PySem.W.Frag} : LR K (rI (fun _ j => 0 < j) fun i j => .int (i % j)) hMod := by
  intro θ H A x y d e Q Qh rd re ra w k
  unfold hMod at w
  split at w
  · cases rd; cases re; exact ⟨_, _, rfl, rfl, w.1, k.here ra (.v _) w.2⟩
  · exact w.elim
def hDiv : R2h
  | .v (.int i), .v (.int j), A, Q => CDiv i j ∧ Q (.v (.int (i / j))) A
  | _, _, _, _ => False
theorem l_div {K : PySem.W.Frag} : LR K (rI CDiv fun i j => .int (i / j)) hDiv := by
  intro θ H A x y d e Q Qh rd re ra w k
  unfold hDiv at w
  split at w
  · cases rd; cases re; exact ⟨_, _, rfl, rfl, w.1, k.here ra (.v _) w.2⟩
  · exact w.elim
def hPow : R2h
  | .v (.int i), .v (.int j), A, Q => CPow i j ∧ Q (.v (.int (i ^ j.toNat))) A
  | _, _, _, _ => False
theorem l_pow {K : PySem.W.Frag} : LR K (rI CPow fun i j => .int (i ^ j.toNat)) hPow := by
  intro θ H A x y d e Q Qh rd re ra w k
  unfold hPow at w
  split at w
  · cases rd; cases re; exact ⟨_, _, rfl, rfl, w.1, k.here ra (.v _) w.2⟩
  · exact w.elim
/-- <, <=, >, >= of whole numbers -/
def hI (f : Int → Int → Bool) : R2h
  | .v (.int i), .v (.int j), A, Q => Q (.v (.bl (f i j))) A
  | _, _, _, _ => False
theorem l_cmpI {K : PySem.W.Frag} {f : Int → Int → Bool} : LR K (rI0 fun i j => .bl (f i j)) (hI f) := by
  intro θ H A x y d e Q Qh rd re ra w k
  unfold hI at w
  split at w
  · cases rd; cases re; exact ⟨_, _, rfl, rfl, k.here ra (.v _) w⟩
  · exact w.elim
/-! ### a[i] -/
def hIx : R2h
  | .tup ds, .v (.int i), A, Q => ∃ d, atI ds i = some d ∧ Q d A
  | .ptr k, .v (.int i), A, Q => ∃ ds, A[k]? = some (.lst ds) ∧ ∃ d, atI ds i = some d ∧ Q d A
  | .scr ns, .v (.int i), A, Q => ∃ n, atI ns i = some n ∧ Q (.v (.int n)) A
  | _, _, _, _ => False
theorem RDs.atI {K : PySem.W.Frag} {θ : List Addr} {H : Hp} {vs : List V} {ds : List D} {i : Int} {d : D} (r : RDs K θ H vs ds) (h : atI ds i = some d) : ∃ v, L2.atI vs i = some v ∧ RD K θ H v d := by
  unfold L2.atI at h ⊢
  rw [r.length]
  cases e : ixN ds.length i with
  | none => rw [e] at h; cases h
  | some j =>
    rw [e] at h
    exact r.get h
theorem l_ix {K : PySem.W.Frag} : LR K (rIx K) hIx := by
  intro θ H A x y d e Q Qh rd re ra w k
  unfold hIx at w
  split at w
  · obtain ⟨d, h, q⟩ := w
    cases re
    cases rd with
    | tup hs r =>
      obtain ⟨v, h1, h2⟩ := r.atI h
      exact .inr (.inl ⟨_, _, _, v, rfl, rfl, hs, h1, k.here ra h2 q⟩)
  · obtain ⟨ds, h0, d, h, q⟩ := w
    cases re
    cases rd with
    | ptr hi =>
      obtain ⟨xs, g, r⟩ := ra.ok _ _ _ hi h0
      obtain ⟨v, h1, h2⟩ := r.atI h
      exact .inl ⟨_, _, _, v, rfl, rfl, SqL.of g, h1, k.here ra h2 q⟩
  · obtain ⟨n, h, q⟩ := w
    rename_i ns i
    cases re
    cases rd with
    | @scr a _ hs =>
      have r : RDs K θ H (ns.map V.int) (ns.map fun x => D.v (.int x)) := RDs.scal V.int ns
      obtain ⟨v, h1, h2⟩ := r.atI (i := _) (d := .v (.int n)) (by
        unfold L2.atI at h ⊢
        rw [List.length_map]
        cases e : ixN ns.length _ with
        | none => rw [e] at h; cases h
        | some j =>
          rw [e] at h
          show (ns.map _)[j]? = _
          rw [List.getElem?_map]
          rw [show ns[j]? = some n from h]
          rfl)
      exact .inl ⟨_, _, _, v, rfl, rfl, hs.l, h1, k.here ra h2 q⟩
  · exact w.elim
/-! ### slices -/
def cutD (xs : List D) (lo hi : Option Int) : List D := (xs.drop (HT.sIx xs.length 0 lo)).take (HT.sIx xs.length xs.length hi - HT.sIx xs.length 0 lo)
def cutI (xs : List Int) (lo hi : Option Int) : List Int := (xs.drop (HT.sIx xs.length 0 lo)).take (HT.sIx xs.length xs.length hi - HT.sIx xs.length 0 lo)
def hCut : D → Option Int → Option Int → OH → KH → Prop
  | .tup ds, lo, hi, A, Q => Q (.tup (cutD ds lo hi)) A
  | .ptr k, lo, hi, A, Q => ∃ ds, A[k]? = some (.lst ds) ∧ NewQ A (.lst (cutD ds lo hi)) Q
  | .scr ns, lo, hi, A, Q => NewQ A (.lst ((cutI ns lo hi).map fun n => .v (.int n))) Q
  | _, _, _, _, _ => False
def hSl (te : TEh) (tl th : TOh) : TEh := fun σ A Q => te σ A fun x A1 => tl σ A1 fun l A2 => th σ A2 fun u A3 => hCut x l u A3 Q
def hPart (t : TEh) : TOh := fun σ A Q => t σ A fun d A1 => match d with | .v (.int i) => Q (some i) A1 | _ => False
def hNoPart : TOh := fun _ A Q => Q none A
theorem poh_none : PO X none (liftO X.K hNoPart) := po_none.imp fun σ H Q ⟨θ, σh, A, Qh, rs, ra, w, k⟩ => k _ _ _ _ (.refl _ _) ra w
theorem poh_some {t : TEh} (h : PE X e (lift X.K t)) : PO X (some e) (liftO X.K (hPart t)) := (po_some h).imp fun σ H Q ⟨θ, σh, A, Qh, rs, ra, w, k⟩ =>
  ⟨θ, σh, A, _, rs, ra, w, fun θ1 H1 A1 v d e1 ra1 r1 w1 => by
    split at w1
    · cases r1; exact ⟨_, rfl, k _ _ _ _ e1 ra1 w1⟩
    · exact w1.elim⟩
theorem RDs.cut {K : PySem.W.Frag} {θ : List Addr} {H : Hp} {vs : List V} {ds : List D} {lo hi : Option Int} (r : RDs K θ H vs ds) : RDs K θ H (cutV vs lo hi) (cutD ds lo hi) := by
  unfold cutV cutD
  rw [r.length]
  exact (r.drop _).take _
theorem RDs.cut_whole {K : PySem.W.Frag} {θ : List Addr} {H : Hp} {xs : List V} {ds : List D} {lo hi : Option Int} (r : RDs K θ H xs ds) (z : HT.sIx xs.length 0 lo = 0 ∧ HT.sIx xs.length xs.length hi = xs.length) : cutD ds lo hi = ds := by
  unfold cutD
  rw [← r.length, z.1, z.2, Nat.sub_zero, List.drop_zero, r.length, List.take_length]
theorem cut_ints (ns : List Int) (l u : Option Int) : cutV (ns.map V.int) l u = (cutI ns l u).map V.int := by
  unfold cutV cutI
  rw [List.length_map, List.map_take, List.map_drop]
theorem sl_any : SlR X (fun x lo hi H Q => rSlL X.K x lo hi H Q ∨ rSlA X.K x lo hi H Q) := sl_list.or sl_tupA
theorem ph_slice {lo hi : Option Expr} {te : TEh} {tl th : TOh} (he : PE X e (lift X.K te)) (hl : PO X lo (liftO X.K tl)) (hu : PO X hi (liftO X.K th)) : PE X (.Subscript e (.Slice lo hi none p2) pos) (lift X.K (hSl te tl th)) :=
  (pe_slice sl_any he hl hu).imp fun σ H Q ⟨θ, σh, A, Qh, rs, ra, w, k⟩ => ⟨θ, σh, A, _, rs, ra, w, fun θ1 H1 A1 v d e1 ra1 r1 w1 => ⟨θ1, σh, A1, _, rs.ext e1, ra1, w1, fun θ2 H2 A2 l e2 ra2 w2 =>
    ⟨θ2, σh, A2, _, (rs.ext e1).ext e2, ra2, w2, fun θ3 H3 A3 u e3 ra3 w3 => by
      have r3 := (r1.ext e2).ext e3
      have k3 := ((k.ext e1).ext e2).ext e3
      unfold hCut at w3
      split at w3
      · cases r3 with
        | @tup a xs ds hs r =>
          refine .inr ⟨_, xs, rfl, hs, fun z => ?_, fun _ p hp => k3.tup ra3 r.cut w3 hp⟩
          rw [r.cut_whole z] at w3
          exact k3.here ra3 (.tup hs r) w3
      · obtain ⟨ds, h0, q⟩ := w3
        cases r3 with
        | ptr hi =>
          obtain ⟨xs, g, r⟩ := ra3.ok _ _ _ hi h0
          exact .inl ⟨_, xs, rfl, SqL.of g, fun p hp => k3.lst ra3 r.cut q hp⟩
      · cases r3 with
        | @scr a ns hs =>
          refine .inl ⟨_, _, rfl, hs.l, fun p hp => k3.lst ra3 ?_ w3 hp⟩
          rw [cut_ints]
          exact RDs.scal V.int _
      · exact w3.elim⟩⟩⟩
end
end Rp

namespace Rp
open PySem PySem.Spec PyProof.Rows L2
/-! ### a def whose promise wants that nothing is being shown (repr) around it -/
structure FnG (P : Program) (w : World) (K : PySem.W.Frag) (mg : Str → Option Value) (base : Heap) (CX : CXT) (k : Nat) (f : Addr) (fd : FuncData) (ps : List Str) (sp : Sp) : Prop where
  len : ∀ vs H Q E, sp vs H Q E → vs.length = ps.length
  go : ∀ (A : Around) (outer : List Env) (s : Shared) (H : Hp) (args : Args) (us : List Value) (vs : List V) (Q : VK) (E : XK), A.guards = some [] → Room k A → Env0 P w K mg base A outer s H →
    BindsTo s fd args (ps.zip us) → Vals vs us → sp vs H Q E → codeAny (model P w) A (.call (.ref f) args) (CR CX outer P w H s Q E) s
theorem FnG.of {P : Program} {w : World} {K : PySem.W.Frag} {mg : Str → Option Value} {base : Heap} {CX : CXT} {k : Nat} {f : Addr} {fd : FuncData} {ps : List Str} {sp : Sp} (F : FnOk P w K mg base CX k f fd ps sp) : FnG P w K mg base CX k f fd ps sp :=
  ⟨F.len, fun A outer s H args us vs Q E _ => F.run A outer s H args us vs Q E⟩
theorem deeper_guards {A : Around} {env : Env} (h : A.guards = some []) : (A.deeper env).guards = some [] := h
section
variable {P : Program} {w : World} {K : PySem.W.Frag} {mg : Str → Option Value} {base : Heap} {CX : CXT}
/-- a def by its body, the guards known -/
theorem fnG_of {x qual : Str} {st : Stmt} {f : Addr} {fd : FuncData} {N ps : List Str} {k : Nat} {sp : Sp} (F : Fun K x qual st f fd) (S : FnScope N ps (defScope st)) (len : ∀ vs H Q E, sp vs H Q E → vs.length = ps.length)
    (hb : ∀ (cdv : Value) (A : Around) (outer : List Env) (s : Shared) (H : Hp) (vs : List V) (Q : VK) (E : XK), (A.deeper (envOfC qual (defScope st) s.heap.objs.size f cdv)).guards = some [] → Room k (A.deeper (envOfC qual (defScope st) s.heap.objs.size f cdv)) → sp vs H Q E →
      ∃ t, PSs (cxOf CX P w K mg base N qual (defScope st) f cdv A outer s H E) (defBody st) t ∧ t { nx := fun _ H' => Q .non H', rt := Q } (start N vs) H) : FnG P w K mg base CX (k + 1) f fd ps sp := by
  obtain ⟨oc, od, kV, doc, pm, an, cdv, ct, osl, rfl, lk, hcd⟩ := F.ex
  refine ⟨len, fun A outer s H args us vs Q E gA room en bi rel want => ?_⟩
  have kept : ∀ b o, base.get? b = some o → s.heap.get? b = some o := fun b o e => (en.bs b o e).1
  have inK : K.In s.heap := en.mod.kin.keeps kept
  refine codeAny_call_function room.depth (inK _ _ lk) rfl S.co S.gen rfl (PySem.W.codeRec_of inK hcd) (bi _ _ _ _ ?_)
  refine wpAny_newFunctionEnv_cells S.kind (fun y hy => ?_) fun env he s1 made => ?_
  · rcases S.par y.1 (List.of_mem_zip (show (y.1, y.2) ∈ ps.zip us from hy)).1 with q | q
    · exact .inl q
    · exact .inr ⟨q, PySem.W.cellsFrom_some _ _ _ (.inl q)⟩
  subst he
  refine ⟨(en.mod.nolimit.keeps kept).keeps made.toInCall.keep, codeAny_func ?_⟩
  obtain ⟨t, body, reads⟩ := hb cdv A outer s H vs Q E (deeper_guards gA) (room.deeper _) want
  refine wpAny_mono (body.run [] s1 (start N vs) H _ (inv_start S room.hd en (len _ _ _ _ want) rel made) reads) (fun fl s' hs => ?_) fun e s' hs => hs
  cases fl with
  | ret u =>
    obtain ⟨v, σ', H', J, rv, q⟩ := hs
    exact ⟨v, H', J.os, J.bare, J.base, J.hok, rv, q⟩
  | next =>
    obtain ⟨σ', H', J, q⟩ := hs
    exact ⟨V.non, H', J.os, J.bare, J.base, J.hok, rfl, q⟩
  | brk => exact absurd hs (fun ⟨_, _, _, z⟩ => (z : False))
  | cont => exact absurd hs (fun ⟨_, _, _, z⟩ => (z : False))
/-- .. that lets no error out -/
theorem okG {x qual : Str} {st : Stmt} {f : Addr} {fd : FuncData} {N ps : List Str} {k : Nat} {sp : Sp} (F : Fun K x qual st f fd) (S : FnScope N ps (defScope st)) (len : ∀ vs H Q E, sp vs H Q E → vs.length = ps.length)
    (hb : ∀ (cdv : Value) (A : Around) (outer : List Env) (s : Shared) (H : Hp) (vs : List V) (Q : VK) (E : XK), (A.deeper (envOfC qual (defScope st) s.heap.objs.size f cdv)).guards = some [] → Room k (A.deeper (envOfC qual (defScope st) s.heap.objs.size f cdv)) → sp vs H Q E →
      ∃ t, PSs (cxOf CX P w K mg base N qual (defScope st) f cdv A outer s H E).nox (defBody st) t ∧ t { nx := fun _ H' => Q .non H', rt := Q } (start N vs) H) : FnG P w K mg base CX (k + 1) f fd ps sp :=
  fnG_of F S len fun cdv A outer s H vs Q E gA room want => let ⟨t, body, reads⟩ := hb cdv A outer s H vs Q E gA room want; ⟨t, body.nox, reads⟩
end
section
variable {X : Cx} {CX : CXT} {k : Nat} {f C : Addr} {fd : FuncData} {ps : List Str} {sp : Sp} {E : XK} {x m : Str} {p pos apos : Pos} {e o : Expr} {es : List Expr} {ta : TE} {t : TA}
theorem runG {pins : List (Addr × Obj)} {σ : L2.St} {H : Hp} {s : Shared} {Q : VK} {us : List Value} {vs : List V} (F : FnG X.prog X.w X.K X.mg X.base CX k f fd ps sp) (gA : X.A.guards = some []) (room : Room k X.A) (hb : L2.Binds X.K fd ps [])
    (hx : Passes CX X E) (I : Inv X pins σ H s) (r : Vals vs us) (h : sp vs H Q E) : wpAny (model X.prog X.w) X.A (call (.ref f) us) (EP X pins σ Q) X.xe s := by
  have hl : (us ++ []).length = ps.length := by rw [List.append_nil, ← r.length]; exact F.len _ _ _ _ h
  have bi := hb s us I.kIn hl
  rw [List.append_nil] at bi
  refine wpAny_call (codeAny_mono (F.go X.A X.stack s H ⟨us, []⟩ us vs Q E gA room I.env0 bi r h) fun res s' hq => ?_)
  cases res with
  | error e => exact hx pins σ H s e s' I hq
  | ok fl =>
    cases fl with
    | ret u => exact I.after hq
    | next => exact hq.elim
    | brk => exact hq.elim
    | cont => exact hq.elim
def tCallG (sp : Sp) (E : XK) (t : TA) : TE := fun σ H Q => t σ H fun vs H1 => sp vs H1 Q E
theorem pe_callG (F : FnG X.prog X.w X.K X.mg X.base CX k f fd ps sp) (gA : X.A.guards = some []) (room : Room k X.A) (hg : Gl X x) (hm : X.mg x = some (.ref f)) (hk : PySem.W.keepIn X.K (.ref f) = true) (hb : L2.Binds X.K fd ps [])
    (hx : Passes CX X E) (ha : PA X (e :: es) t) (hdb : (x == ("__debug__" : Str)) = false := by decide) (hst : starEach (e :: es) X.env = (false, eval e X.env) :: starEach es X.env := by rfl)
    (hpl : (backTo pos (starEach es X.env)).any (·.1) = false := by rfl) : PE X (.Call (.Name x p) (e :: es) [] pos) (tCallG sp E t) :=
  ⟨fun pins s σ H Q I h => wpAny_Call_Name_kw (ld_glob I hg hm (PySem.W.callWith_K (h₀ := X.base) I.ok.mod.kin hk (thn (ha.run pos pins s σ H _ I h) fun us s1 ⟨vs, H1, I1, r, q⟩ => ⟨I1.kIn, runG F gA room hb hx I1 r q⟩) hst hpl) hdb)⟩
end
/-! ### repr of data -/
/-- what may be shown -/
structure Shw (d : PyData) : Prop where
  sh : d.showable = true
  nd : d.hasDict = false
  dp : d.depth ≤ 16
  sz : d.shown.length ≤ sizeLine
section
variable {X : Cx}
theorem call_reprD (gA : X.A.guards = some []) (hu : X.A.units + 64 < cLine) : CallR X (.builtin "repr") (fun xs H Q => ∃ x d, xs = [x] ∧ Dp X.K H x d ∧ Shw d ∧ Q (.str d.shown) H) := by
  intro pins s σ H xs us Q I r h
  obtain ⟨x, d, rfl, hd, hw, q⟩ := h
  cases r with
  | cons rx rn =>
    cases rn
    have dp := hw.dp
    cases hd with
    | non => cases rx; exact PySem.P.repr_of_none ⟨.str _, H, I.tok _, ⟨_, rfl⟩, q⟩
    | bl b => cases rx; exact PySem.P.repr_of_bool ⟨.str _, H, I.tok _, ⟨_, rfl⟩, q⟩
    | int i =>
      obtain ⟨t, rfl⟩ := rx
      exact PySem.P.repr_of_int (by have := hw.sh; simpa [PyData.showable] using this) ⟨.str _, H, I.tok _, ⟨_, rfl⟩, q⟩
    | str z =>
      obtain ⟨t, rfl⟩ := rx
      exact PySem.P.repr_of_str ⟨.str _, H, I.tok _, ⟨_, rfl⟩, q⟩ hw.sz
    | @lst a xs ds h1 h2 =>
      obtain ⟨as, rd⟩ := Dp.reads I (.list ds) (.ref a) _ (.lst h1 h2) rx
      cases rx
      exact repr_of_reads' rd hw.sh (PyData.noDict_hsm hw.nd) gA (by omega) (fun _ _ z => z) (fun h' u tk kp => ⟨.str _, H, I.kept kp, ⟨_, rfl⟩, q⟩) hw.sz
    | @tup a xs ds h1 h2 =>
      obtain ⟨as, rd⟩ := Dp.reads I (.tuple ds) (.ref a) _ (.tup h1 h2) rx
      cases rx
      exact repr_of_reads' rd hw.sh (PyData.noDict_hsm hw.nd) gA (by omega) (fun _ _ z => z) (fun h' u tk kp => ⟨.str _, H, I.kept kp, ⟨_, rfl⟩, q⟩) hw.sz
end
end Rp

/-! Tests, statements, loops, comprehensions over data. -/
namespace Rp
open PySem PySem.Spec PyProof.Rows L2
/-- both ways of a test -/
structure Br (b : Bool) (p q : Prop) : Prop where
  yes : b = true → p
  no : b = false → q
theorem Br.t {p q : Prop} (h : p) : Br true p q := ⟨fun _ => h, fun z => Bool.noConfusion z⟩
theorem Br.f {p q : Prop} (h : q) : Br false p q := ⟨fun z => Bool.noConfusion z, fun _ => h⟩
theorem Br.d {c : Prop} [Decidable c] {p q : Prop} (h : c → p) (h' : ¬ c → q) : Br (decide c) p q := ⟨fun e => h (of_decide_eq_true e), fun e => h' (of_decide_eq_false e)⟩
theorem Br.n {c : Prop} [Decidable c] {p q : Prop} (h : ¬ c → p) (h' : c → q) : Br (!decide c) p q := ⟨fun e => h (by simpa using e), fun e => h' (by simpa using e)⟩
theorem Br.ite {b : Bool} {p q : Prop} (h : Br b p q) : if b = true then p else q := by
  cases b with
  | true => exact h.yes rfl
  | false => exact h.no rfl
section
variable {X : Cx} {e a b c : Expr} {es : List Expr} {x : Str} {pos p p2 : Pos}
/-- a value's truth -/
def hTru : D → OH → (Bool → OH → Prop) → Prop
  | .v .non, A, Q => Q false A
  | .v (.bl b), A, Q => Q b A
  | .v (.int i), A, Q => Q (i != 0) A
  | .v (.str y), A, Q => y.length ≤ sizeLine ∧ Q ((y.length : Int) != 0) A
  | .tup ds, A, Q => Q (!ds.isEmpty) A
  | .ptr k, A, Q => (∃ ds, A[k]? = some (.lst ds) ∧ Q (!ds.isEmpty) A) ∨ ∃ kvs, A[k]? = some (.dK kvs) ∧ Q (!kvs.isEmpty) A
  | .scr ns, A, Q => Q (!ns.isEmpty) A
  | _, _, _ => False
theorem RDs.isEmpty {K : PySem.W.Frag} {θ : List Addr} {H : Hp} {xs : List V} {ds : List D} (r : RDs K θ H xs ds) : (!xs.isEmpty) = !ds.isEmpty := by cases r <;> rfl
theorem RF.isEmpty {κ : Type} {K : PySem.W.Frag} {θ : List Addr} {H : Hp} {xs : List (κ × V)} {ds : List (κ × D)} (r : RF K θ H xs ds) : (!xs.isEmpty) = !ds.isEmpty := by cases r <;> rfl
def hTv (t : TEh) : TTh := fun σ A Q => t σ A fun d A1 => hTru d A1 Q
theorem pth_val {t : TEh} (h : PE X a (lift X.K t)) (he : ∀ whole, isTrue a X.env whole = (do let v ← whole; standAt a.pos; holding [v] (truthy v)) := by intro _; rfl) : PT X a (liftT X.K (hTv t)) :=
  (pt_truth h he).imp fun σ H Q ⟨θ, σh, A, Qh, rs, ra, w, k⟩ => ⟨θ, σh, A, _, rs, ra, w, fun θ1 H1 A1 v d e1 ra1 r1 w1 => by
    unfold hTru at w1
    split at w1
    · cases r1; exact ⟨false, rfl, k _ _ _ _ e1 ra1 w1⟩
    · cases r1; exact ⟨_, rfl, k _ _ _ _ e1 ra1 w1⟩
    · cases r1; exact ⟨_, rfl, k _ _ _ _ e1 ra1 w1⟩
    · cases r1; exact ⟨_, ⟨w1.1, rfl⟩, k _ _ _ _ e1 ra1 w1.2⟩
    · cases r1 with
      | tup hs r => exact ⟨_, .inr (.inl ⟨_, hs, rfl⟩), k _ _ _ _ e1 ra1 (by rw [r.isEmpty]; exact w1)⟩
    · cases r1 with
      | ptr hi =>
        rcases w1 with ⟨ds, h0, q⟩ | ⟨kvs, h0, q⟩
        · obtain ⟨xs, g, r⟩ := ra1.ok _ _ _ hi h0
          exact ⟨_, .inl ⟨_, SqL.of g, rfl⟩, k _ _ _ _ e1 ra1 (by rw [r.isEmpty]; exact q)⟩
        · obtain ⟨xs, g, r⟩ := ra1.ok _ _ _ hi h0
          exact ⟨_, .inr (.inr ⟨_, g, rfl⟩), k _ _ _ _ e1 ra1 (by rw [r.isEmpty]; exact q)⟩
    · cases r1 with
      | scr hs => exact ⟨_, .inl ⟨_, hs.l, rfl⟩, k _ _ _ _ e1 ra1 (by rw [List.isEmpty_map]; exact w1)⟩
    · exact w1.elim⟩
def hTest (t : TEh) : TTh := fun σ A Q => t σ A fun d A1 => match d with | .v (.bl b) => Q b A1 | _ => False
theorem pth_cmp {op : CmpOp} {r : R2} {rh : R2h} {ta tb : TEh} (l : LR X.K r rh) (ho : OpR X (compareOp op) r) (ha : PE X a (lift X.K ta)) (hb : PE X b (lift X.K tb)) (hm : behindInMarks op b = false) : PT X (.Compare a [op] [b] pos) (liftT X.K (hTest (hOp rh ta tb))) :=
  (pt_cmpR ho ha hb hm).imp fun σ H Q ⟨θ, σh, A, Qh, rs, ra, w, k⟩ => lift_op l σ H _ ⟨θ, σh, A, _, rs, ra, w, fun θ1 H1 A1 v d e1 ra1 r1 w1 => by
    split at w1
    · cases r1; exact ⟨_, rfl, k _ _ _ _ e1 ra1 w1⟩
    · exact w1.elim⟩
/-- a op1 b op2 c of whole numbers -/
def hChain (r r' : R2h) (ta tb tc : TEh) : TEh := fun σ A Q => ta σ A fun x A1 => tb σ A1 fun y A2 => r x y A2 fun z A3 => match z with | .v (.bl k) => Br k (tc σ A3 fun w A4 => r' y w A4 Q) (Q (.v (.bl false)) A3) | _ => False
theorem lift_chain {K : PySem.W.Frag} {r r' : R2} {rh rh' : R2h} {ta tb tc : TEh} (l : LR K r rh) (l' : LR K r' rh') (σ : L2.St) (H : Hp) (Q : VK) : lift K (hChain rh rh' ta tb tc) σ H Q → tChain r r' (lift K ta) (lift K tb) (lift K tc) σ H Q :=
  fun ⟨θ, σh, A, Qh, rs, ra, w, k⟩ => ⟨θ, σh, A, _, rs, ra, w, fun θ1 H1 A1 x d e1 ra1 r1 w1 => ⟨θ1, σh, A1, _, rs.ext e1, ra1, w1, fun θ2 H2 A2 y e e2 ra2 r2 w2 =>
    l _ _ _ _ _ _ _ _ _ (r1.ext e2) r2 ra2 w2 fun θ3 H3 A3 z dz e3 ra3 r3 w3 => by
      split at w3
      · rename_i k'
        cases r3
        refine ⟨k', rfl, ?_⟩
        cases k' with
        | true => exact ⟨θ3, σh, A3, _, ((rs.ext e1).ext e2).ext e3, ra3, w3.yes rfl, fun θ4 H4 A4 u du e4 ra4 r4 w4 => l' _ _ _ _ _ _ _ _ _ ((r2.ext e3).ext e4) r4 ra4 w4 ((((k.ext e1).ext e2).ext e3).ext e4)⟩
        | false => exact (((k.ext e1).ext e2).ext e3).here ra3 (.v _) (w3.no rfl)
      · exact w3.elim⟩⟩
theorem ph_chain {op op' : CmpOp} {r r' : R2} {rh rh' : R2h} {ta tb tc : TEh} (l : LR X.K r rh) (l' : LR X.K r' rh') (ho : OpR X (compareOp op) r) (ho' : OpR X (compareOp op') r') (ha : PE X a (lift X.K ta)) (hb : PE X b (lift X.K tb)) (hc : PE X c (lift X.K tc))
    (hm : lastMarks [op, op'] [b, c] = false := by with_unfolding_all rfl) : PE X (.Compare a [op, op'] [b, c] pos) (lift X.K (hChain rh rh' ta tb tc)) := (pe_chain ho ho' ha hb hc hm).imp (lift_chain l l')
theorem pth_chain {op op' : CmpOp} {r r' : R2} {rh rh' : R2h} {ta tb tc : TEh} (l : LR X.K r rh) (l' : LR X.K r' rh') (ho : OpR X (compareOp op) r) (ho' : OpR X (compareOp op') r') (ha : PE X a (lift X.K ta)) (hb : PE X b (lift X.K tb)) (hc : PE X c (lift X.K tc))
    (hm : lastMarks [op, op'] [b, c] = false := by with_unfolding_all rfl) : PT X (.Compare a [op, op'] [b, c] pos) (liftT X.K (hTest (hChain rh rh' ta tb tc))) :=
  (pt_chain ho ho' ha hb hc hm).imp fun σ H Q ⟨θ, σh, A, Qh, rs, ra, w, k⟩ => lift_chain l l' σ H _ ⟨θ, σh, A, _, rs, ra, w, fun θ1 H1 A1 v d e1 ra1 r1 w1 => by
    split at w1
    · cases r1; exact ⟨_, rfl, k _ _ _ _ e1 ra1 w1⟩
    · exact w1.elim⟩
def hAnd (t u : TTh) : TTh := fun σ A Q => t σ A fun b A1 => Br b (u σ A1 Q) (Q false A1)
def hOr (t u : TTh) : TTh := fun σ A Q => t σ A fun b A1 => Br b (Q true A1) (u σ A1 Q)
def hNot (t : TTh) : TTh := fun σ A Q => t σ A fun b A1 => Q (!b) A1
variable {rest : List Expr}
theorem pwh_and1 {t : TTh} (ha : PT X a (liftT X.K t)) : PW X (.BoolOp .And [a] pos) (liftT X.K t) := pw_and1 ha
theorem pwh_or1 {t : TTh} (ha : PT X a (liftT X.K t)) : PW X (.BoolOp .Or [a] pos) (liftT X.K t) := pw_or1 ha
theorem pwh_and {t u : TTh} (ha : PT X a (liftT X.K t)) (hb : PW X (.BoolOp .And (b :: rest) pos) (liftT X.K u)) : PW X (.BoolOp .And (a :: b :: rest) pos) (liftT X.K (hAnd t u)) :=
  (pw_and ha hb).imp fun σ H Q ⟨θ, σh, A, Qh, rs, ra, w, k⟩ => ⟨θ, σh, A, _, rs, ra, w, fun θ1 H1 A1 b e1 ra1 w1 => by
    cases b with
    | true => exact ⟨θ1, σh, A1, _, rs.ext e1, ra1, w1.yes rfl, fun θ2 H2 A2 b e2 ra2 w2 => k _ _ _ _ (e1.trans e2) ra2 w2⟩
    | false => exact k _ _ _ _ e1 ra1 (w1.no rfl)⟩
theorem pwh_or {t u : TTh} (ha : PT X a (liftT X.K t)) (hb : PW X (.BoolOp .Or (b :: rest) pos) (liftT X.K u)) : PW X (.BoolOp .Or (a :: b :: rest) pos) (liftT X.K (hOr t u)) :=
  (pw_or ha hb).imp fun σ H Q ⟨θ, σh, A, Qh, rs, ra, w, k⟩ => ⟨θ, σh, A, _, rs, ra, w, fun θ1 H1 A1 b e1 ra1 w1 => by
    cases b with
    | true => exact k _ _ _ _ e1 ra1 (w1.yes rfl)
    | false => exact ⟨θ1, σh, A1, _, rs.ext e1, ra1, w1.no rfl, fun θ2 H2 A2 b e2 ra2 w2 => k _ _ _ _ (e1.trans e2) ra2 w2⟩⟩
theorem pth_not {t : TTh} (ha : PT X a (liftT X.K t)) : PT X (.UnaryOp .Not a pos) (liftT X.K (hNot t)) :=
  (pt_not ha).imp fun σ H Q ⟨θ, σh, A, Qh, rs, ra, w, k⟩ => ⟨θ, σh, A, _, rs, ra, w, fun θ1 H1 A1 b e1 ra1 w1 => k _ _ _ _ e1 ra1 w1⟩
/-- .. as values, all truths -/
def hAndV (t u : TEh) : TEh := fun σ A Q => t σ A fun d A1 => match d with | .v (.bl b) => Br b (u σ A1 Q) (Q (.v (.bl false)) A1) | _ => False
def hOrV (t u : TEh) : TEh := fun σ A Q => t σ A fun d A1 => match d with | .v (.bl b) => Br b (Q (.v (.bl true)) A1) (u σ A1 Q) | _ => False
def hNotV (t : TEh) : TEh := fun σ A Q => t σ A fun d A1 => match d with | .v (.bl b) => Q (.v (.bl (!b))) A1 | _ => False
theorem ph_one {op} {t : TEh} (h : PE X a (lift X.K t)) : PE X (.BoolOp op [a] pos) (lift X.K t) := pe_one h
theorem ph_and {t u : TEh} (ha : PE X a (lift X.K t)) (hb : PE X (.BoolOp .And (b :: rest) pos) (lift X.K u)) : PE X (.BoolOp .And (a :: b :: rest) pos) (lift X.K (hAndV t u)) :=
  (pe_and ha hb).imp fun σ H Q ⟨θ, σh, A, Qh, rs, ra, w, k⟩ => ⟨θ, σh, A, _, rs, ra, w, fun θ1 H1 A1 v d e1 ra1 r1 w1 => by
    split at w1
    · rename_i b
      cases r1
      refine ⟨b, rfl, ?_⟩
      cases b with
      | true => exact ⟨θ1, σh, A1, _, rs.ext e1, ra1, w1.yes rfl, k.ext e1⟩
      | false => exact (k.ext e1).here ra1 (.v _) (w1.no rfl)
    · exact w1.elim⟩
theorem ph_or {t u : TEh} (ha : PE X a (lift X.K t)) (hb : PE X (.BoolOp .Or (b :: rest) pos) (lift X.K u)) : PE X (.BoolOp .Or (a :: b :: rest) pos) (lift X.K (hOrV t u)) :=
  (pe_or ha hb).imp fun σ H Q ⟨θ, σh, A, Qh, rs, ra, w, k⟩ => ⟨θ, σh, A, _, rs, ra, w, fun θ1 H1 A1 v d e1 ra1 r1 w1 => by
    split at w1
    · rename_i b
      cases r1
      refine ⟨b, rfl, ?_⟩
      cases b with
      | true => exact (k.ext e1).here ra1 (.v _) (w1.yes rfl)
      | false => exact ⟨θ1, σh, A1, _, rs.ext e1, ra1, w1.no rfl, k.ext e1⟩
    · exact w1.elim⟩
theorem ph_not {t : TEh} (ha : PE X a (lift X.K t)) : PE X (.UnaryOp .Not a pos) (lift X.K (hNotV t)) :=
  (pe_not ha).imp fun σ H Q ⟨θ, σh, A, Qh, rs, ra, w, k⟩ => ⟨θ, σh, A, _, rs, ra, w, fun θ1 H1 A1 v d e1 ra1 r1 w1 => by
    split at w1
    · cases r1; exact ⟨_, rfl, (k.ext e1).here ra1 (.v _) w1⟩
    · exact w1.elim⟩
def hIfE (c : TTh) (t u : TEh) : TEh := fun σ A Q => c σ A fun b A1 => Br b (t σ A1 Q) (u σ A1 Q)
theorem ph_ifExp {tc : TTh} {t u : TEh} (hc : PT X c (liftT X.K tc)) (ha : PE X a (lift X.K t)) (hb : PE X b (lift X.K u)) : PE X (.IfExp c a b pos) (lift X.K (hIfE tc t u)) :=
  (pe_ifExp hc ha hb).imp fun σ H Q ⟨θ, σh, A, Qh, rs, ra, w, k⟩ => ⟨θ, σh, A, _, rs, ra, w, fun θ1 H1 A1 b e1 ra1 w1 => by
    cases b with
    | true => exact ⟨θ1, σh, A1, _, rs.ext e1, ra1, w1.yes rfl, k.ext e1⟩
    | false => exact ⟨θ1, σh, A1, _, rs.ext e1, ra1, w1.no rfl, k.ext e1⟩⟩
/-- - of a whole number -/
def hNeg (t : TEh) : TEh := fun σ A Q => t σ A fun d A1 => match d with | .v (.int i) => Q (.v (.int (-i))) A1 | _ => False
theorem ph_neg {t : TEh} (ha : PE X a (lift X.K t)) : PE X (.UnaryOp .USub a pos) (lift X.K (hNeg t)) :=
  (pe_un un_neg ha).imp fun σ H Q ⟨θ, σh, A, Qh, rs, ra, w, k⟩ => ⟨θ, σh, A, _, rs, ra, w, fun θ1 H1 A1 v d e1 ra1 r1 w1 => by
    split at w1
    · cases r1; exact ⟨_, rfl, (k.ext e1).here ra1 (.v _) w1⟩
    · exact w1.elim⟩
end
/-! ### statements -/
structure Eh where
  nx : SH → OH → Prop
  rt : KH
  bk : SH → OH → Prop := fun _ _ => False
  ct : SH → OH → Prop := fun _ _ => False
abbrev TSh := Eh → SH → OH → Prop
/-- what is wanted of the slots and the objects: by data -/
def Kn (K : PySem.W.Frag) (θ : List Addr) (H : Hp) (Q : L2.St → Hp → Prop) (Qh : SH → OH → Prop) : Prop := ∀ θ' σ' H' σh' A', Ext θ H θ' H' → RS K θ' H' σ' σh' → RA K θ' H' A' → Qh σh' A' → Q σ' H'
theorem Kn.ext {K : PySem.W.Frag} {θ θ' : List Addr} {H H' : Hp} {Q : L2.St → Hp → Prop} {Qh : SH → OH → Prop} (k : Kn K θ H Q Qh) (e : Ext θ H θ' H') : Kn K θ' H' Q Qh := fun _ _ _ _ _ e' rs ra q => k _ _ _ _ _ (e.trans e') rs ra q
structure KS (K : PySem.W.Frag) (θ : List Addr) (H : Hp) (De : Ends) (Dh : Eh) : Prop where
  nx : Kn K θ H De.nx Dh.nx
  rt : Kt K θ H De.rt Dh.rt
  bk : Kn K θ H De.bk Dh.bk
  ct : Kn K θ H De.ct Dh.ct
theorem KS.ext {K : PySem.W.Frag} {θ θ' : List Addr} {H H' : Hp} {De : Ends} {Dh : Eh} (k : KS K θ H De Dh) (e : Ext θ H θ' H') : KS K θ' H' De Dh := ⟨k.nx.ext e, k.rt.ext e, k.bk.ext e, k.ct.ext e⟩
def liftS (K : PySem.W.Frag) (t : TSh) : TS := fun De σ H => ∃ θ σh A Dh, RS K θ H σ σh ∧ RA K θ H A ∧ t Dh σh A ∧ KS K θ H De Dh
theorem _root_.L2.PS.imp {X : Cx} {st : Stmt} {t t' : TS} (h : PS X st t) (f : ∀ D σ H, t' D σ H → t D σ H) : PS X st t' := ⟨fun pins s σ H D I w => h.run pins s σ H D I (f D σ H w)⟩
theorem _root_.L2.PSs.imp {X : Cx} {st : List Stmt} {t t' : TS} (h : PSs X st t) (f : ∀ D σ H, t' D σ H → t D σ H) : PSs X st t' := ⟨fun pins s σ H D I w => h.run pins s σ H D I (f D σ H w)⟩
abbrev TGh := D → SH → OH → (SH → OH → Prop) → Prop
abbrev TGsh := List D → SH → OH → (SH → OH → Prop) → Prop
def liftG (K : PySem.W.Frag) (g : TGh) : TG := fun v σ H Q => ∃ θ d σh A Qh, RD K θ H v d ∧ RS K θ H σ σh ∧ RA K θ H A ∧ g d σh A Qh ∧ Kn K θ H Q Qh
def liftGs (K : PySem.W.Frag) (g : TGsh) : TGs := fun v σ H Q => ∃ θ d σh A Qh, RDs K θ H v d ∧ RS K θ H σ σh ∧ RA K θ H A ∧ g d σh A Qh ∧ Kn K θ H Q Qh
/-- a target's reading, by data -/
def LG (K : PySem.W.Frag) (g : TG) (gh : TGh) : Prop := ∀ v σ H Q, liftG K gh v σ H Q → g v σ H Q
def LGs (K : PySem.W.Frag) (g : TGs) (gh : TGsh) : Prop := ∀ v σ H Q, liftGs K gh v σ H Q → g v σ H Q
def hgName (i : Nat) : TGh := fun d σ A Q => Q (σ.set i (some d)) A
def hgNil : TGsh := fun ds σ A Q => match ds with | [] => Q σ A | _ => False
def hgCons (t : TGh) (u : TGsh) : TGsh := fun ds σ A Q => match ds with | d :: r => t d σ A fun σ1 A1 => u r σ1 A1 Q | _ => False
def hgTup (t : TGsh) : TGh := fun d σ A Q => match d with | .tup ds => t ds σ A Q | _ => False
section
variable {K : PySem.W.Frag}
theorem lg_name {i : Nat} : LG K (gName i) (hgName i) := fun v σ H Q ⟨θ, d, σh, A, Qh, r, rs, ra, w, k⟩ => k _ _ _ _ _ (.refl _ _) (RS.set (.some r) i rs) ra w
theorem lg_nil : LGs K gNil hgNil := fun v σ H Q ⟨θ, d, σh, A, Qh, r, rs, ra, w, k⟩ => by
  unfold hgNil at w
  split at w
  · cases r; exact ⟨rfl, k _ _ _ _ _ (.refl _ _) rs ra w⟩
  · exact w.elim
theorem lg_cons {g : TG} {gs : TGs} {gh : TGh} {gsh : TGsh} (h : LG K g gh) (h' : LGs K gs gsh) : LGs K (gCons g gs) (hgCons gh gsh) := fun v σ H Q ⟨θ, d, σh, A, Qh, r, rs, ra, w, k⟩ => by
  unfold hgCons at w
  split at w
  · cases r with
    | cons r1 r2 => exact ⟨_, _, rfl, h _ _ _ _ ⟨θ, _, σh, A, _, r1, rs, ra, w, fun θ1 σ1 H1 σh1 A1 e1 rs1 ra1 w1 => h' _ _ _ _ ⟨θ1, _, σh1, A1, _, r2.ext e1, rs1, ra1, w1, k.ext e1⟩⟩⟩
  · exact w.elim
/-- how many a target's names take -/
def LenG (gsh : TGsh) (n : Nat) : Prop := ∀ ds σ A Q, gsh ds σ A Q → ds.length = n
theorem len_nil : LenG hgNil 0 := fun ds σ A Q w => by
  unfold hgNil at w
  split at w
  · rfl
  · exact w.elim
theorem hgs_mono {gsh : TGsh} (h : ∀ ds σ A Q Q', (∀ σ A, Q σ A → Q' σ A) → gsh ds σ A Q → gsh ds σ A Q') : True := trivial
theorem lg_tup {n : Nat} {gs : TGs} {gsh : TGsh} (h : LGs K gs gsh) (hl : LenG gsh n) : LG K (gTup K n gs) (hgTup gsh) := fun v σ H Q ⟨θ, d, σh, A, Qh, r, rs, ra, w, k⟩ => by
  unfold hgTup at w
  split at w
  · cases r with
    | tup hs r => exact ⟨_, _, rfl, hs, by rw [r.length]; exact hl _ _ _ _ w, h _ _ _ _ ⟨θ, _, σh, A, _, r, rs, ra, w, k⟩⟩
  · exact w.elim
end
section
variable {X : Cx} {st : Stmt} {rest : List Stmt} {e a b : Expr} {es : List Expr} {pos : Pos}
def hNext : TSh := fun D σ A => D.nx σ A
def hSeq (t u : TSh) : TSh := fun D σ A => t { D with nx := u D } σ A
theorem pssh_nil : PSs X [] (liftS X.K hNext) := pss_nil.imp fun De σ H ⟨θ, σh, A, Dh, rs, ra, w, k⟩ => k.nx _ _ _ _ _ (.refl _ _) rs ra w
theorem pssh_cons {t u : TSh} (h1 : PS X st (liftS X.K t)) (h2 : PSs X rest (liftS X.K u)) : PSs X (st :: rest) (liftS X.K (hSeq t u)) :=
  (pss_cons h1 h2).imp fun De σ H ⟨θ, σh, A, Dh, rs, ra, w, k⟩ => ⟨θ, σh, A, _, rs, ra, w, ⟨fun θ1 σ1 H1 σh1 A1 e1 rs1 ra1 w1 => ⟨θ1, σh1, A1, Dh, rs1, ra1, w1, k.ext e1⟩, k.rt, k.bk, k.ct⟩⟩
theorem pssh_one {t : TSh} (h1 : PS X st (liftS X.K t)) : PSs X [st] (liftS X.K t) := pss_one h1
def hBreak : TSh := fun D σ A => D.bk σ A
def hCont : TSh := fun D σ A => D.ct σ A
theorem psh_pass : PS X (.Pass pos) (liftS X.K hNext) := ps_pass.imp fun De σ H ⟨θ, σh, A, Dh, rs, ra, w, k⟩ => k.nx _ _ _ _ _ (.refl _ _) rs ra w
theorem psh_break : PS X (.Break pos) (liftS X.K hBreak) := ps_break.imp fun De σ H ⟨θ, σh, A, Dh, rs, ra, w, k⟩ => k.bk _ _ _ _ _ (.refl _ _) rs ra w
theorem psh_continue : PS X (.Continue pos) (liftS X.K hCont) := ps_continue.imp fun De σ H ⟨θ, σh, A, Dh, rs, ra, w, k⟩ => k.ct _ _ _ _ _ (.refl _ _) rs ra w
theorem psh_dead {t : TSh} (h : PS X st (fun _ _ _ => False)) : PS X st (liftS X.K fun _ _ _ => False) := h.imp fun De σ H ⟨θ, σh, A, Dh, rs, ra, w, k⟩ => w
def hDrop (t : TEh) : TSh := fun D σ A => t σ A fun _ A1 => D.nx σ A1
theorem psh_expr {t : TEh} (he : PE X e (lift X.K t)) (hs : swapsWith e none pos.line X.env = pure false := by rfl) : PS X (.Expr e pos) (liftS X.K (hDrop t)) :=
  (ps_expr he hs).imp fun De σ H ⟨θ, σh, A, Dh, rs, ra, w, k⟩ => ⟨θ, σh, A, _, rs, ra, w, fun θ1 H1 A1 v d e1 ra1 r1 w1 => k.nx _ _ _ _ _ e1 (rs.ext e1) ra1 w1⟩
def hRet (t : TEh) : TSh := fun D σ A => t σ A D.rt
theorem psh_ret {t : TEh} (he : PE X e (lift X.K t)) : PS X (.Return (some e) pos) (liftS X.K (hRet t)) :=
  (ps_ret he).imp fun De σ H ⟨θ, σh, A, Dh, rs, ra, w, k⟩ => ⟨θ, σh, A, _, rs, ra, w, k.rt⟩
def hRetN : TSh := fun D _ A => D.rt (.v .non) A
theorem psh_retN : PS X (.Return none pos) (liftS X.K hRetN) := ps_retN.imp fun De σ H ⟨θ, σh, A, Dh, rs, ra, w, k⟩ => k.rt.here ra (.v _) w
def hIfS (c : TTh) (t u : TSh) : TSh := fun D σ A => c σ A fun b A1 => Br b (t D σ A1) (u D σ A1)
theorem psh_if {c : Expr} {xs ys : List Stmt} {tc : TTh} {t u : TSh} (hc : PT X c (liftT X.K tc)) (ha : PSs X xs (liftS X.K t)) (hb : PSs X ys (liftS X.K u)) : PS X (.If c xs ys pos) (liftS X.K (hIfS tc t u)) :=
  (ps_if hc ha hb).imp fun De σ H ⟨θ, σh, A, Dh, rs, ra, w, k⟩ => ⟨θ, σh, A, _, rs, ra, w, fun θ1 H1 A1 b e1 ra1 w1 => by
    cases b with
    | true => exact ⟨θ1, σh, A1, Dh, rs.ext e1, ra1, w1.yes rfl, k.ext e1⟩
    | false => exact ⟨θ1, σh, A1, Dh, rs.ext e1, ra1, w1.no rfl, k.ext e1⟩⟩
def hAsg (t : TEh) (g : TGh) : TSh := fun D σ A => t σ A fun d A1 => g d σ A1 D.nx
theorem lift_asg {t : TEh} {g : TG} {gh : TGh} (lg : LG X.K g gh) (De : Ends) (σ : L2.St) (H : Hp) : liftS X.K (hAsg t gh) De σ H → tAsg (lift X.K t) g De σ H := fun ⟨θ, σh, A, Dh, rs, ra, w, k⟩ =>
  ⟨θ, σh, A, _, rs, ra, w, fun θ1 H1 A1 v d e1 ra1 r1 w1 => lg _ _ _ _ ⟨θ1, d, σh, A1, _, r1, rs.ext e1, ra1, w1, k.nx.ext e1⟩⟩
theorem psh_asg {tg : Expr} {t : TEh} {g : TG} {gh : TGh} (lg : LG X.K g gh) (he : PE X e (lift X.K t)) (hg : PG X tg g) (hs : swapsWithSole [tg] e pos.line X.env = pure false := by rfl) (hw : swappedStores [tg] e X.env = pure none := by rfl)
    (h1 : (assignEach [tg] X.env).map (·.2) = [assign tg X.env] := by rfl) : PS X (.Assign [tg] e pos) (liftS X.K (hAsg t gh)) := (ps_asg he hg hs hw h1).imp (lift_asg lg)
theorem psh_set {i : Nat} {x : Str} {t : TEh} {pos' : Pos} (hN : X.N.Nodup) (hi : X.N[i]? = some x) (hx : Loc X.env.scope x) (he : PE X e (lift X.K t)) (hs : swapsWith e (some (.Name x pos')) pos.line X.env = pure false := by rfl) (hf : X.fn x = true ∨ X.env.scope.names.lookup x = some .local := by first | exact .inl rfl | exact .inr rfl | assumption) :
    PS X (.Assign [.Name x pos'] e pos) (liftS X.K (hAsg t (hgName i))) := (ps_set hN hi hx he hs hf).imp (lift_asg lg_name)
def hPar (i j : Nat) (t : TAh) : TSh := fun D σ A => t σ A fun ds A1 => match ds with | [d, e] => D.nx ((σ.set i (some d)).set j (some e)) A1 | _ => False
theorem psh_par {i j : Nat} {x y : Str} {t : TAh} {px py pt : Pos} {kt k2 pt2} (hc : X.calm = true) (hN : X.N.Nodup) (hi : X.N[i]? = some x) (hj : X.N[j]? = some y) (hij : i ≠ j)
    (hx : X.env.scope.names.lookup x = some .local) (hy : X.env.scope.names.lookup y = some .local) (ha : PA X [a, b] (liftA X.K t))
    (hw : swappedStores [.Tuple [.Name x px, .Name y py] kt pt] (.Tuple [a, b] k2 pt2) X.env = pure (some [x, y]))
    (hs : swapsWithSole [.Tuple [.Name x px, .Name y py] kt pt] (.Tuple [a, b] k2 pt2) pos.line X.env = pure false := by rfl) :
    PS X (.Assign [.Tuple [.Name x px, .Name y py] kt pt] (.Tuple [a, b] k2 pt2) pos) (liftS X.K (hPar i j t)) :=
  (ps_par hc hN hi hj hij hx hy ha hw hs).imp fun De σ H ⟨θ, σh, A, Dh, rs, ra, w, k⟩ => ⟨θ, σh, A, _, rs, ra, w, fun θ1 H1 A1 vs ds e1 ra1 r1 w1 => by
    split at w1
    · cases r1 with
      | cons r1 r2 =>
        cases r2 with
        | cons r2 r3 =>
          cases r3
          exact ⟨_, _, rfl, k.nx _ _ _ _ _ e1 (RS.set (.some r2) j (RS.set (.some r1) i (rs.ext e1))) ra1 w1⟩
    · exact w1.elim⟩
/-- name op= e, of whole numbers -/
def hAug (i : Nat) (t : TEh) (f : Int → Int → Int) : TSh := fun D σ A => getS σ i fun x => t σ A fun y A1 => match x, y with | .v (.int m), .v (.int n) => D.nx (σ.set i (some (.v (.int (f m n))))) A1 | _, _ => False
theorem psh_aug {i : Nat} {x : Str} {t : TEh} {op : Operator} {f : Int → Int → Int} {pos' : Pos} (hN : X.N.Nodup) (hi : X.N[i]? = some x) (hx : Loc X.env.scope x) (he : PE X e (lift X.K t)) (ho : PIp X op (ipI f)) (hf : X.fn x = true ∨ X.env.scope.names.lookup x = some .local := by first | exact .inl rfl | exact .inr rfl | assumption) :
    PS X (.AugAssign (.Name x pos') op e pos) (liftS X.K (hAug i t f)) :=
  (ps_aug hN hi hx he ho hf).imp fun De σ H ⟨θ, σh, A, Dh, rs, ra, w, k⟩ => by
    obtain ⟨v, d, h1, h2, h3⟩ := getS_ok rs w
    refine ⟨v, h1, θ, σh, A, _, rs, ra, h3, fun θ1 H1 A1 u y e1 ra1 r1 w1 => ?_⟩
    split at w1
    · cases h2
      cases r1
      exact ⟨_, _, rfl, rfl, k.nx _ _ _ _ _ e1 (RS.set (.some (.v _)) i (rs.ext e1)) ra1 w1⟩
    · exact w1.elim
/-! ### while -/
def hWhile (c : TTh) (tb : TSh) : TSh := fun D σ A => ∃ W : Nat → SH → OH → Prop, (∃ m, W m σ A) ∧ ∀ m σ A, W m σ A →
  c σ A fun b A1 => Br b (tb { D with nx := fun σ' A' => ∃ m', m' < m ∧ W m' σ' A', ct := fun σ' A' => ∃ m', m' < m ∧ W m' σ' A', bk := D.nx } σ A1) (D.nx σ A1)
theorem psh_while {c : Expr} {body : List Stmt} {tc : TTh} {tb : TSh} (hp : PassesOwn (model X.prog X.w) X.A X.env X.xe) (hc : PT X c (liftT X.K tc)) (hb : PSs X body (liftS X.K tb)) : PS X (.While c body [] pos) (liftS X.K (hWhile tc tb)) :=
  (ps_while hp hc hb).imp fun De σ H ⟨θ, σh, A, Dh, rs, ra, ⟨W, ⟨m0, w0⟩, turn⟩, k⟩ => by
    refine ⟨fun m σ' H' => ∃ θ' σh' A', Ext θ H θ' H' ∧ RS X.K θ' H' σ' σh' ∧ RA X.K θ' H' A' ∧ W m σh' A', ⟨m0, θ, σh, A, .refl _ _, rs, ra, w0⟩, ?_⟩
    rintro m σ1 H1 ⟨θ1, σh1, A1, e1, rs1, ra1, w1⟩
    refine ⟨θ1, σh1, A1, _, rs1, ra1, turn m σh1 A1 w1, fun θ2 H2 A2 b e2 ra2 w2 => ?_⟩
    cases b with
    | true =>
      rw [if_pos rfl]
      refine ⟨fun σ' H' => ∃ m', m' < m ∧ ∃ θ' σh' A', Ext θ H θ' H' ∧ RS X.K θ' H' σ' σh' ∧ RA X.K θ' H' A' ∧ W m' σh' A', fun _ _ z => z, ?_⟩
      refine ⟨θ2, σh1, A2, _, rs1.ext e2, ra2, w2.yes rfl, ⟨?_, (k.rt.ext e1).ext e2, (k.nx.ext e1).ext e2, ?_⟩⟩
      · rintro θ3 σ3 H3 σh3 A3 e3 rs3 ra3 ⟨m', hm, w3⟩
        exact ⟨m', hm, θ3, σh3, A3, (e1.trans e2).trans e3, rs3, ra3, w3⟩
      · rintro θ3 σ3 H3 σh3 A3 e3 rs3 ra3 ⟨m', hm, w3⟩
        exact ⟨m', hm, θ3, σh3, A3, (e1.trans e2).trans e3, rs3, ra3, w3⟩
    | false =>
      rw [if_neg Bool.false_ne_true]
      exact (k.nx.ext e1) _ _ _ _ _ e2 (rs1.ext e2) ra2 (w2.no rfl)
/-! ### what a for walks -/
structure Src where
  n : Nat
  item : Nat → Option D
  live : OH → Prop
def RJ (K : PySem.W.Frag) (θ0 : List Addr) (H0 : Hp) (J : It) (src : Src) : Prop := ∀ θ H A i, Ext θ0 H0 θ H → RA K θ H A → src.live A →
  (i < src.n → J.go i H ∧ ∀ x H', J.yld i H x H' → ∃ d, src.item i = some d ∧ Ext θ H θ H' ∧ RA K θ H' A ∧ RD K θ H' x d) ∧ (src.n ≤ i → J.stop i H)
abbrev TIh := SH → OH → (Src → OH → Prop) → Prop
def liftI (K : PySem.W.Frag) (ti : TIh) : TI := fun σ H R => ∃ θ σh A Rh, RS K θ H σ σh ∧ RA K θ H A ∧ ti σh A Rh ∧ ∀ θ' H' A' J src, Ext θ H θ' H' → RA K θ' H' A' → RJ K θ' H' J src → Rh src A' → R J H'
theorem _root_.L2.PI.imp {tg l : Expr} {w w' : TI} (h : PI X tg l w) (f : ∀ σ H R, w' σ H R → w σ H R) : PI X tg l w' := ⟨fun pins s σ H R I q => h.run pins s σ H R I (f σ H R q)⟩
/-- a list or a tuple -/
def iSeq (K : PySem.W.Frag) (tl : TE) : TI := fun σ H R => tl σ H fun x H1 => ∃ a, x = .ref a ∧ (((∃ xs, SqL K H1 a xs) ∧ R (Itl K a) H1) ∨ ((∃ xs, SqT K H1 a xs) ∧ R (Itt K a) H1))
theorem pi_seq {tg l : Expr} {tl : TE} (hl : PE X l tl) : PI X tg l (iSeq X.K tl) := by
  refine ⟨fun pins s σ H R I h => ?_⟩
  refine thn (hl.run pins s σ H _ I h) fun v s1 ⟨x, H1, I1, r1, q1⟩ => ?_
  obtain ⟨a, e, q⟩ := q1
  subst e
  cases r1
  rcases q with ⟨⟨xs, hq⟩, q⟩ | ⟨⟨xs, hq⟩, q⟩
  · obtain ⟨its, rv, p, hz⟩ := I1.list hq
    refine wpAny_pyIter_list p.isList ?_
    refine ⟨s1.heap.objs.size, [s1.heap.objs.size], _, _, H1, rfl, I1.kept (t' := s1.toks) fun b o e => Heap.get?_push_of_some _ e, turn_list a _, ⟨_, Heap.get?_push_size _ rfl, rfl, rfl⟩, fun b hb => ?_, q⟩
    have e : b = s1.heap.objs.size := by simpa using hb
    subst e
    exact I1.fpOk (Nat.le_refl _) (I1.hok.fresh (Nat.le_refl _))
  · obtain ⟨its, rv, p, hz⟩ := I1.tuple hq
    refine wpAny_pyIter_tuple (show s1.heap.IsTuple a its.toArray from p) ?_
    refine ⟨s1.heap.objs.size, [s1.heap.objs.size], _, _, H1, rfl, I1.kept (t' := s1.toks) fun b o e => Heap.get?_push_of_some _ e, turn_tuple a _, ⟨_, Heap.get?_push_size _ rfl, rfl, rfl⟩, fun b hb => ?_, q⟩
    have e : b = s1.heap.objs.size := by simpa using hb
    subst e
    exact I1.fpOk (Nat.le_refl _) (I1.hok.fresh (Nat.le_refl _))
def srcT (ds : List D) : Src := ⟨ds.length, fun i => ds[i]?, fun _ => True⟩
def srcL (k : Nat) (ds : List D) : Src := ⟨ds.length, fun i => ds[i]?, fun A => A[k]? = some (.lst ds)⟩
def srcI (ns : List Int) : Src := ⟨ns.length, fun i => ns[i]?.map fun n => .v (.int n), fun _ => True⟩
def srcR (lo : Int) (n : Nat) : Src := ⟨n, fun i => some (.v (.int (lo + i))), fun _ => True⟩
def hSrc : D → OH → (Src → OH → Prop) → Prop
  | .tup ds, A, R => R (srcT ds) A
  | .ptr k, A, R => ∃ ds, A[k]? = some (.lst ds) ∧ R (srcL k ds) A
  | .scr ns, A, R => R (srcI ns) A
  | _, _, _ => False
def hIt (t : TEh) : TIh := fun σ A R => t σ A fun d A1 => hSrc d A1 R
end
section
variable {K : PySem.W.Frag}
theorem rj_tup {θ0 : List Addr} {H0 : Hp} {a : Addr} {xs : List V} {ds : List D} (hs : SqT K H0 a xs) (r : RDs K θ0 H0 xs ds) : RJ K θ0 H0 (Itt K a) (srcT ds) := fun θ H A i e ra _ => by
  have hs' := SqT.stab hs e.stab
  have r' := r.ext e
  refine ⟨fun hi => ⟨⟨xs, xs[i]'(by rw [r.length]; exact hi), hs', List.getElem?_eq_getElem _⟩, fun x H' y => ?_⟩, fun hi => ⟨xs, hs', by rw [r.length]; exact hi⟩⟩
  obtain ⟨rfl, y⟩ := y
  obtain ⟨d, h1, h2⟩ := r'.get' (y xs hs')
  exact ⟨d, h1, .refl _ _, ra, h2⟩
theorem rj_lst {θ0 : List Addr} {H0 : Hp} {a : Addr} {k : Nat} {ds : List D} (hk : θ0[k]? = some a) : RJ K θ0 H0 (Itl K a) (srcL k ds) := fun θ H A i e ra (lv : A[k]? = some (.lst ds)) => by
  have hk' : θ[k]? = some a := by
    obtain ⟨t, rfl⟩ := e.pre
    rw [List.getElem?_append_left (List.getElem?_eq_some_iff.mp hk).1]; exact hk
  obtain ⟨xs, g, r⟩ := ra.ok _ _ _ hk' lv
  refine ⟨fun hi => ⟨⟨xs, xs[i]'(by rw [r.length]; exact hi), SqL.of g, List.getElem?_eq_getElem _⟩, fun x H' y => ?_⟩, fun hi => ⟨xs, SqL.of g, by rw [r.length]; exact hi⟩⟩
  obtain ⟨rfl, y⟩ := y
  obtain ⟨d, h1, h2⟩ := r.get' (y xs (SqL.of g))
  exact ⟨d, h1, .refl _ _, ra, h2⟩
theorem rj_scr {θ0 : List Addr} {H0 : Hp} {a : Addr} {ns : List Int} (hs : SqF K H0 a (ns.map V.int)) : RJ K θ0 H0 (Itl K a) (srcI ns) := fun θ H A i e ra _ => by
  have hs' := (SqF.stab hs e.stab).l
  refine ⟨fun hi => ⟨⟨ns.map V.int, (ns.map V.int)[i]'(by rw [List.length_map]; exact hi), hs', List.getElem?_eq_getElem _⟩, fun x H' y => ?_⟩, fun hi => ⟨_, hs', by rw [List.length_map]; exact hi⟩⟩
  obtain ⟨rfl, y⟩ := y
  have q := y _ hs'
  rw [List.getElem?_map] at q
  cases h : ns[i]? with
  | none => rw [h] at q; cases q
  | some n =>
    rw [h] at q
    cases q
    exact ⟨.v (.int n), by show (ns[i]?).map _ = _; rw [h]; rfl, .refl _ _, ra, .v _⟩
theorem rj_rng {θ0 : List Addr} {H0 : Hp} {lo : Int} {n : Nat} : RJ K θ0 H0 (Itr lo n) (srcR lo n) := fun θ H A i e ra _ => by
  refine ⟨fun hi => ⟨hi, fun x H' y => ?_⟩, fun hi => hi⟩
  obtain ⟨rfl, rfl⟩ := y
  exact ⟨_, rfl, .refl _ _, ra, .v _⟩
end
section
variable {X : Cx} {tg l a b : Expr} {p pos : Pos}
theorem pih_seq {t : TEh} (hl : PE X l (lift X.K t)) : PI X tg l (liftI X.K (hIt t)) := (pi_seq hl).imp fun σ H R ⟨θ, σh, A, Rh, rs, ra, w, k⟩ => ⟨θ, σh, A, _, rs, ra, w, fun θ1 H1 A1 v d e1 ra1 r1 w1 => by
  unfold hSrc at w1
  split at w1
  · cases r1 with
    | tup hs r => exact ⟨_, rfl, .inr ⟨⟨_, hs⟩, k _ _ _ _ _ e1 ra1 (rj_tup hs r) w1⟩⟩
  · obtain ⟨ds, h0, q⟩ := w1
    cases r1 with
    | ptr hi =>
      obtain ⟨xs, g, r⟩ := ra1.ok _ _ _ hi h0
      exact ⟨_, rfl, .inl ⟨⟨_, SqL.of g⟩, k _ _ _ _ _ e1 ra1 (rj_lst hi) q⟩⟩
  · cases r1 with
    | scr hs => exact ⟨_, rfl, .inl ⟨⟨_, hs.l⟩, k _ _ _ _ _ e1 ra1 (rj_scr hs) w1⟩⟩
  · exact w1.elim⟩
def hRng1 (t : TAh) : TIh := fun σ A R => t σ A fun ds A1 => match ds with | [.v (.int j)] => (-(2 ^ 62) ≤ j ∧ j < 2 ^ 62) ∧ R (srcR 0 j.toNat) A1 | _ => False
def hRng2 (t : TAh) : TIh := fun σ A R => t σ A fun ds A1 => match ds with | [.v (.int i), .v (.int j)] => (-(2 ^ 62) ≤ i ∧ i < 2 ^ 62 ∧ -(2 ^ 62) ≤ j ∧ j < 2 ^ 62) ∧ R (srcR i (j - i).toNat) A1 | _ => False
theorem RDs.ints1 {K : PySem.W.Frag} {θ : List Addr} {H : Hp} {vs : List V} {x : V} (r : RDs K θ H vs [.v x]) : vs = [x] := by
  cases r with
  | cons r t => cases t; cases r; rfl
theorem RDs.ints2 {K : PySem.W.Frag} {θ : List Addr} {H : Hp} {vs : List V} {x y : V} (r : RDs K θ H vs [.v x, .v y]) : vs = [x, y] := by
  cases r with
  | cons r t => cases r; rw [t.ints1]
theorem pih_range1 {t : TAh} (hg : Gl X "range") (hm : X.mg "range" = none) (ha : PA X [a] (liftA X.K t)) (hs : starEach [a] X.env = [(false, eval a X.env)] := by rfl) : PI X tg (.Call (.Name "range" p) [a] [] pos) (liftI X.K (hRng1 t)) :=
  (pi_range1 hg hm ha hs).imp fun σ H R ⟨θ, σh, A, Rh, rs, ra, w, k⟩ => ⟨θ, σh, A, _, rs, ra, w, fun θ1 H1 A1 v d e1 ra1 r1 w1 => by
    split at w1
    · exact ⟨_, r1.ints1, w1.1.1, w1.1.2, k _ _ _ _ _ e1 ra1 rj_rng w1.2⟩
    · exact w1.elim⟩
theorem pih_range2 {t : TAh} (hg : Gl X "range") (hm : X.mg "range" = none) (ha : PA X [a, b] (liftA X.K t)) (hs : starEach [a, b] X.env = [(false, eval a X.env), (false, eval b X.env)] := by rfl) (hs2 : starEach [b] X.env = [(false, eval b X.env)] := by rfl) :
    PI X tg (.Call (.Name "range" p) [a, b] [] pos) (liftI X.K (hRng2 t)) :=
  (pi_range2 hg hm ha hs hs2).imp fun σ H R ⟨θ, σh, A, Rh, rs, ra, w, k⟩ => ⟨θ, σh, A, _, rs, ra, w, fun θ1 H1 A1 v d e1 ra1 r1 w1 => by
    split at w1
    · exact ⟨_, _, r1.ints2, w1.1, k _ _ _ _ _ e1 ra1 rj_rng w1.2⟩
    · exact w1.elim⟩
/-! ### for -/
/-- over what stays as it is: Pv by the turn -/
def hFor (ti : TIh) (g : TGh) (tb : TSh) : TSh := fun D σ A => ti σ A fun src A1 => ∃ Pv : Nat → SH → OH → Prop, Pv 0 σ A1 ∧ (∀ i σ A, i ≤ src.n → Pv i σ A → src.live A) ∧
  (∀ i d σ A, i < src.n → src.item i = some d → Pv i σ A → g d σ A fun σ2 A2 => tb { D with nx := Pv (i + 1), ct := Pv (i + 1), bk := D.nx } σ2 A2) ∧ ∀ σ A, Pv src.n σ A → D.nx σ A
theorem psh_for {iter : Expr} {body : List Stmt} {ti : TIh} {g : TG} {gh : TGh} {tb : TSh} (lg : LG X.K g gh) (hp : PassesOwn (model X.prog X.w) X.A X.env X.xe) (hc : X.calm = true) (hi : PI X tg iter (liftI X.K ti)) (hg : PG X tg g) (hb : PSs X body (liftS X.K tb))
    (hs : ∀ x, foldedSetIterable iter X.env x = pure x := by intro _; rfl) : PS X (.For tg iter body [] pos) (liftS X.K (hFor ti gh tb)) :=
  (ps_for hp hc hi hg hb hs).imp fun De σ H ⟨θ, σh, A, Dh, rs, ra, w, k⟩ => ⟨θ, σh, A, _, rs, ra, w, fun θ1 H1 A1 J src e1 ra1 rj ⟨Pv, h0, hl, hs, hd⟩ => by
    refine ⟨fun i m σ' H' => m = src.n - i ∧ i ≤ src.n ∧ ∃ θ' σh' A', Ext θ1 H1 θ' H' ∧ RS X.K θ' H' σ' σh' ∧ RA X.K θ' H' A' ∧ Pv i σh' A', ⟨src.n, by simp, Nat.zero_le _, θ1, σh, A1, .refl _ _, rs.ext e1, ra1, h0⟩, ?_⟩
    rintro i m σ2 H2 ⟨rfl, hi, θ2, σh2, A2, e2, rs2, ra2, p2⟩
    obtain ⟨r1, r2⟩ := rj θ2 H2 A2 i e2 ra2 (hl i σh2 A2 hi p2)
    by_cases hlt : i < src.n
    · obtain ⟨go, yl⟩ := r1 hlt
      refine .inr ⟨go, fun σ' H' => ∃ θ' σh' A', Ext θ1 H1 θ' H' ∧ RS X.K θ' H' σ' σh' ∧ RA X.K θ' H' A' ∧ Pv (i + 1) σh' A', fun σ' H' q => ⟨src.n - (i + 1), by omega, rfl, hlt, q⟩, fun x H3 y => ?_⟩
      obtain ⟨d, hd, e3, ra3, r3⟩ := yl x H3 y
      refine lg _ _ _ _ ⟨θ2, d, σh2, A2, _, r3, rs2.ext e3, ra3, hs i d σh2 A2 hlt hd p2, fun θ4 σ4 H4 σh4 A4 e4 rs4 ra4 w4 => ?_⟩
      refine ⟨θ4, σh4, A4, _, rs4, ra4, w4, ⟨?_, (((k.rt.ext e1).ext e2).ext e3).ext e4, (((k.nx.ext e1).ext e2).ext e3).ext e4, ?_⟩⟩
      · exact fun θ5 σ5 H5 σh5 A5 e5 rs5 ra5 w5 => ⟨θ5, σh5, A5, ((e2.trans e3).trans e4).trans e5, rs5, ra5, w5⟩
      · exact fun θ5 σ5 H5 σh5 A5 e5 rs5 ra5 w5 => ⟨θ5, σh5, A5, ((e2.trans e3).trans e4).trans e5, rs5, ra5, w5⟩
    · have e : i = src.n := by omega
      subst e
      exact .inl ⟨r2 (Nat.le_refl _), ((k.nx.ext e1).ext e2) _ _ _ _ _ (.refl _ _) rs2 ra2 (hd _ _ p2)⟩⟩
/-! ### comprehensions -/
/-- a target that only writes the block's own slots -/
def Keeps (vs : List Nat) (g : TG) : Prop := ∀ v σ H Q, g v σ H Q → g v σ H fun σ' H' => L2.wipe σ' vs = L2.wipe σ vs ∧ Q σ' H'
def Keepss (vs : List Nat) (g : TGs) : Prop := ∀ v σ H Q, g v σ H Q → g v σ H fun σ' H' => L2.wipe σ' vs = L2.wipe σ vs ∧ Q σ' H'
theorem wipe_set {i : Nat} {x : Option V} : ∀ {vs : List Nat} {σ : L2.St}, i ∈ vs → L2.wipe (σ.set i x) vs = L2.wipe σ vs
  | [], _, h => nomatch h
  | v :: vs, σ, h => by
    show (L2.wipe (σ.set i x) vs).set v none = (L2.wipe σ vs).set v none
    by_cases q : i ∈ vs
    · rw [wipe_set q]
    · have e : i = v := (List.mem_cons.mp h).resolve_right q
      subst e
      have f : ∀ (ws : List Nat), (L2.wipe (σ.set i x) ws).set i none = (L2.wipe σ ws).set i none := fun ws => by
        induction ws with
        | nil => show (σ.set i x).set i none = σ.set i none; rw [List.set_set]
        | cons w ws ih =>
          show ((L2.wipe (σ.set i x) ws).set w none).set i none = ((L2.wipe σ ws).set w none).set i none
          by_cases c : w = i
          · subst c; rw [ih]
          · rw [List.set_comm _ _ c, ih, List.set_comm _ _ (Ne.symm c)]
      exact f vs
theorem keeps_name {i : Nat} {vs : List Nat} (h : i ∈ vs) : Keeps vs (gName i) := fun v σ H Q w => ⟨wipe_set h, w⟩
theorem keeps_nil {vs : List Nat} : Keepss vs gNil := fun v σ H Q w => ⟨w.1, rfl, w.2⟩
theorem keeps_cons {vs : List Nat} {g : TG} {gs : TGs} (h : Keeps vs g) (h' : Keepss vs gs) (mono : ∀ v σ H Q Q', (∀ σ H, Q σ H → Q' σ H) → g v σ H Q → g v σ H Q') : Keepss vs (gCons g gs) := fun v σ H Q ⟨x, r, e, w⟩ =>
  ⟨x, r, e, mono _ _ _ _ _ (fun σ1 H1 ⟨q1, q2⟩ => by
    have := h' _ _ _ _ q2
    rw [q1] at this
    exact this) (h _ _ _ _ w)⟩
theorem mono_name {i : Nat} : ∀ v σ H Q Q', (∀ σ H, Q σ H → Q' σ H) → gName i v σ H Q → gName i v σ H Q' := fun _ _ _ _ _ h w => h _ _ w
theorem keeps_tup {K : PySem.W.Frag} {vs : List Nat} {n : Nat} {gs : TGs} (h : Keepss vs gs) : Keeps vs (gTup K n gs) := fun v σ H Q ⟨a, xs, e, hs, hl, w⟩ => ⟨a, xs, e, hs, hl, h _ _ _ _ w⟩
theorem wipe_wipe (σ : L2.St) (vs : List Nat) : L2.wipe (L2.wipe σ vs) vs = L2.wipe σ vs := by
  have f : ∀ (ws us : List Nat), (∀ w ∈ ws, w ∈ us) → L2.wipe (L2.wipe σ ws) us = L2.wipe σ us := fun ws => by
    induction ws with
    | nil => intro us _; rfl
    | cons w ws ih =>
      intro us h
      show L2.wipe ((L2.wipe σ ws).set w none) us = _
      rw [wipe_set (h w List.mem_cons_self), ih us fun x hx => h x (List.mem_cons_of_mem _ hx)]
  exact f vs vs fun _ h => h
def hLc (ti : TIh) (g : TGh) (tt : TTh) (te : TEh) (vs : List Nat) : TEh := fun σ A Q => ti σ A fun src A1 => ∃ Pv : Nat → List D → OH → Prop, src.n ≤ 100000 ∧ Pv 0 [] A1 ∧ (∀ i acc A, i ≤ src.n → Pv i acc A → src.live A) ∧
  (∀ i d acc A, i < src.n → src.item i = some d → Pv i acc A → g d (wipeH σ vs) A fun σ2 A2 => tt σ2 A2 fun b A3 => Br b (te σ2 A3 fun e A4 => Pv (i + 1) (acc ++ [e]) A4) (Pv (i + 1) acc A3)) ∧ ∀ acc A, Pv src.n acc A → NewQ A (.lst acc) Q
/-- a list that no number stands for may be written -/
theorem RA.off {K : PySem.W.Frag} {θ : List Addr} {H : Hp} {A : OH} {a : Addr} {u : HO} (ra : RA K θ H A) (na : a ∉ θ) (mu : Mu (H a)) : RA K θ (upd H a u) A :=
  ⟨ra.len, ra.nd, fun i b o h1 h2 => by
    have ne : b ≠ a := fun z => na (by rw [← z]; exact List.mem_of_getElem? h1)
    have q := (ra.ok i b o h1 h2).stab (t := []) (stab_put (u := u) mu) (by rw [upd_ne ne]) fun dx e => by rw [upd_ne fun z => by subst z; rw [e] at mu; exact mu]; exact e
    rw [List.append_nil] at q
    exact q⟩
theorem Ext.off {θ θ' : List Addr} {H H' : Hp} {a : Addr} {u : HO} (e : Ext θ H θ' H') (ha : H a = none) (mu : Mu (H' a)) : Ext θ H θ' (upd H' a u) :=
  ⟨e.pre, e.new, fun b o nb h => by rw [upd_ne (ne_of_none h ha)]; exact e.stay b o nb h, e.stab.trans (stab_put mu)⟩
theorem RA.into {K : PySem.W.Frag} {θ : List Addr} {H : Hp} {A : OH} {a : Addr} {xs : List V} {ds : List D} (ra : RA K θ H A) (na : a ∉ θ) (h : H a = some (.lst xs)) (r : RDs K θ H xs ds) : RA K (θ ++ [a]) H (A ++ [.lst ds]) := by
  refine ⟨by rw [List.length_append, List.length_append, ra.len]; rfl, ?_, fun i b o h1 h2 => ?_⟩
  · rw [List.nodup_append]
    exact ⟨ra.nd, by simp, fun x hx y hy => by rw [List.mem_singleton.mp hy]; exact fun z => na (by rw [← z]; exact hx)⟩
  · by_cases hi : i < θ.length
    · rw [List.getElem?_append_left hi] at h1
      rw [List.getElem?_append_left (by rw [← ra.len]; exact hi)] at h2
      exact (ra.ok i b o h1 h2).stab (.refl H) rfl fun _ e => e
    · rw [List.getElem?_append_right (by omega)] at h1
      rw [List.getElem?_append_right (by rw [← ra.len]; omega)] at h2
      have e : i - θ.length = 0 := by
        have := (List.getElem?_eq_some_iff.mp h1).1
        simp at this
        omega
      rw [e] at h1
      rw [← ra.len, e] at h2
      simp at h1 h2
      subst h1 h2
      exact ⟨xs, h, r.stab (.refl H)⟩
theorem lift_lc {K : PySem.W.Frag} {ti : TIh} {g : TG} {gh : TGh} {tt : TTh} {te : TEh} {vs : List Nat} (lg : LG K g gh) (kp : Keeps vs g) (σ : L2.St) (H : Hp) (Q : VK) : lift K (hLc ti gh tt te vs) σ H Q → tLc (liftI K ti) g (liftT K tt) (lift K te) vs σ H Q :=
  fun ⟨θ, σh, A, Qh, rs, ra, w, k⟩ => ⟨θ, σh, A, _, rs, ra, w, fun θ1 H1 A1 J src e1 ra1 rj ⟨Pv, hn, h0, hl, hs, hd⟩ D hD => by
    have nD : ∀ {θ'' : List Addr} {H'' : Hp} {A'' : OH}, RA K θ'' H'' A'' → H'' D = none → D ∉ θ'' := fun ra' h z => by
      obtain ⟨u, hu, _⟩ := ra'.mut z
      rw [h] at hu; cases hu
    refine ⟨fun i m H' => m = src.n - i ∧ i ≤ src.n ∧ ∃ θ' A' acc xs, Ext θ1 H1 θ' H' ∧ RA K θ' H' A' ∧ H' D = some (.lst xs) ∧ RDs K θ' H' xs acc ∧ D ∉ θ' ∧ acc.length ≤ i ∧ Pv i acc A',
      ⟨src.n, by simp, Nat.zero_le _, θ1, A1, [], [], .new0 hD, ra1.new0 hD, upd_same, .nil, nD ra1 hD, Nat.le_refl _, h0⟩, ?_⟩
    rintro i m H2 ⟨rfl, hi, θ2, A2, acc, xs, e2, ra2, hx, rx, nD2, hacc, p2⟩
    obtain ⟨r1, r2⟩ := rj θ2 H2 A2 i e2 ra2 (hl i acc A2 hi p2)
    by_cases hlt : i < src.n
    · obtain ⟨go, yl⟩ := r1 hlt
      refine .inr ⟨go, fun H' => ∃ θ' A' acc xs, Ext θ1 H1 θ' H' ∧ RA K θ' H' A' ∧ H' D = some (.lst xs) ∧ RDs K θ' H' xs acc ∧ D ∉ θ' ∧ acc.length ≤ i + 1 ∧ Pv (i + 1) acc A', fun H' q => ⟨src.n - (i + 1), by omega, rfl, hlt, q⟩, fun x H3 y => ?_⟩
      obtain ⟨d, hd, e3, ra3, r3⟩ := yl x H3 y
      have keepD : ∀ {θ' : List Addr} {H' : Hp}, Ext θ2 H2 θ' H' → H' D = some (.lst xs) ∧ D ∉ θ' := fun {θ' H'} e => ⟨e.keep nD2 hx (fun _ z => nomatch z), fun z => by
        rcases e.new D z with q | q
        · exact nD2 q
        · rw [hx] at q; cases q⟩
      have turn : liftG K gh x (L2.wipe σ vs) H3 (fun σ4 H4 => liftT K tt σ4 H4 fun b H5 => if b = true then lift K te σ4 H5 fun y H6 => ∃ acc, H6 D = some (.lst acc) ∧ acc.length < sizeLine ∧ ∃ θ' A' acc' xs, Ext θ1 H1 θ' (upd H6 D (.lst (acc ++ [y]))) ∧ RA K θ' (upd H6 D (.lst (acc ++ [y]))) A' ∧ (upd H6 D (.lst (acc ++ [y]))) D = some (.lst xs) ∧ RDs K θ' (upd H6 D (.lst (acc ++ [y]))) xs acc' ∧ D ∉ θ' ∧ acc'.length ≤ i + 1 ∧ Pv (i + 1) acc' A'
          else ∃ θ' A' acc xs, Ext θ1 H1 θ' H5 ∧ RA K θ' H5 A' ∧ H5 D = some (.lst xs) ∧ RDs K θ' H5 xs acc ∧ D ∉ θ' ∧ acc.length ≤ i + 1 ∧ Pv (i + 1) acc A') := by
        refine ⟨θ2, d, wipeH σh vs, A2, _, r3, (((rs.ext e1).ext e2).ext e3).wipe vs, ra3, hs i d acc A2 hlt hd p2, fun θ4 σ4 H4 σh4 A4 e4 rs4 ra4 w4 => ?_⟩
        refine ⟨θ4, σh4, A4, _, rs4, ra4, w4, fun θ5 H5 A5 b e5 ra5 w5 => ?_⟩
        have e25 := (e3.trans e4).trans e5
        cases b with
        | true =>
          refine iteT ?_
          refine ⟨θ5, σh4, A5, _, rs4.ext e5, ra5, w5.yes rfl, fun θ6 H6 A6 v d' e6 ra6 r6 w6 => ?_⟩
          have e26 := e25.trans e6
          obtain ⟨hx6, nD6⟩ := keepD e26
          have mu : Mu (H6 D) := by rw [hx6]; exact True.intro
          have l1 := (rx.ext e26).length
          have ez : sizeLine = 16777216 := sizeLine_eq
          refine ⟨xs, hx6, by omega, θ6, A6, acc ++ [d'], xs ++ [v], (e2.trans e26).off hD mu, ra6.off nD6 mu, upd_same, ((rx.ext e26).append (.cons r6 .nil)).stab0 (stab_put mu), nD6, by rw [List.length_append]; simp; omega, w6⟩
        | false =>
          refine iteF ?_
          obtain ⟨hx5, nD5⟩ := keepD e25
          exact ⟨θ5, A5, acc, xs, e2.trans e25, ra5, hx5, rx.ext e25, nD5, by omega, w5.no rfl⟩
      have kept := kp _ _ _ _ (lg _ _ _ _ turn)
      rw [wipe_wipe] at kept
      exact kept
    · have e : i = src.n := by omega
      subst e
      refine .inl ⟨r2 (Nat.le_refl _), ?_⟩
      refine k (θ2 ++ [D]) H2 (A2 ++ [.lst acc]) (.ref D) (.ptr A2.length) ?_ (ra2.into nD2 hx rx) (.ptr (by rw [← ra2.len]; simp)) (hd acc A2 p2 _ _ ⟨rfl, rfl⟩)
      have e12 := e1.trans e2
      obtain ⟨t, ht⟩ := e12.pre
      refine ⟨⟨t ++ [D], by rw [ht, List.append_assoc]⟩, fun b hb => ?_, e12.stay, e12.stab⟩
      rcases List.mem_append.mp hb with q | q
      · exact e12.new b q
      · rw [List.mem_singleton.mp q]
        by_cases c : D ∈ θ
        · exact .inl c
        · cases q' : H D with
          | none => exact .inr rfl
          | some o => exact absurd hD (e1.there c q')⟩
variable {elt iter : Expr} {ifs : List Expr} {scope : Scope} {own : List (Str × Nat)}
theorem ptsh_nil : PTs X [] (liftT X.K fun _ A Q => Q true A) := ⟨fun pins s σ H Q I ⟨θ, σh, A, Qh, rs, ra, w, k⟩ => pts_nil.run pins s σ H Q I (k _ _ _ _ (.refl _ _) ra w)⟩
theorem ptsh_one {c : Expr} {t : TTh} (h : PT X c (liftT X.K t)) : PTs X [c] (liftT X.K t) := pts_one h
theorem ph_lc {ti : TIh} {g : TG} {gh : TGh} {tt : TTh} {te : TEh} (lg : LG X.K g gh) (kp : Keeps (own.map (·.2)) g) (hc : X.calm = true) (hN : X.N.Nodup) (hi : PI X tg iter (liftI X.K ti)) (ok : BlkOk X.N X.env.scope scope own)
    (hg : ∀ (s : Shared) (H : Hp) (C : Addr) (cl : List (Str × Addr)) (fp : List Addr), PG (X.blk s H scope (compEnvC scope cl C X.env) fp) tg g) (ht : ∀ (s : Shared) (H : Hp) (C : Addr) (cl : List (Str × Addr)) (fp : List Addr), PTs (X.blk s H scope (compEnvC scope cl C X.env) fp) ifs (liftT X.K tt))
    (he : ∀ (s : Shared) (H : Hp) (C : Addr) (cl : List (Str × Addr)) (fp : List Addr), PE (X.blk s H scope (compEnvC scope cl C X.env) fp) elt (lift X.K te)) (hs : ∀ x, foldedSetIterable iter X.env x = pure x := by intro _; rfl) :
    PE X (.ListComp elt [⟨tg, iter, ifs, 0⟩] scope pos) (lift X.K (hLc ti gh tt te (own.map (·.2)))) := (pe_lc hc hN hi ok hg ht he hs).imp (lift_lc lg kp)
theorem psh_setLc {i : Nat} {y : Str} {py : Pos} {spos : Pos} {ti : TIh} {g : TG} {gh : TGh} {tt : TTh} {te : TEh} (lg : LG X.K g gh) (kp : Keeps (own.map (·.2)) g) (hc : X.calm = true) (hN : X.N.Nodup) (hy : X.N[i]? = some y) (hyl : X.env.scope.names.lookup y = some .local)
    (hsw : swapsWith (.ListComp elt [⟨tg, iter, ifs, 0⟩] scope pos) (some (.Name y py)) spos.line X.env = pure true) (hi : PI X tg iter (liftI X.K ti)) (ok : BlkOk X.N X.env.scope scope own)
    (hg : ∀ (s : Shared) (H : Hp) (C : Addr) (cl : List (Str × Addr)) (fp : List Addr), PG (X.blk s H scope (compEnvC scope cl C X.env) fp) tg g) (ht : ∀ (s : Shared) (H : Hp) (C : Addr) (cl : List (Str × Addr)) (fp : List Addr), PTs (X.blk s H scope (compEnvC scope cl C X.env) fp) ifs (liftT X.K tt))
    (he : ∀ (s : Shared) (H : Hp) (C : Addr) (cl : List (Str × Addr)) (fp : List Addr), PE (X.blk s H scope (compEnvC scope cl C X.env) fp) elt (lift X.K te)) (hs : ∀ x, foldedSetIterable iter X.env x = pure x := by intro _; rfl) :
    PS X (.Assign [.Name y py] (.ListComp elt [⟨tg, iter, ifs, 0⟩] scope pos) spos) (liftS X.K (hAsg (hLc ti gh tt te (own.map (·.2))) (hgName i))) :=
  (ps_setLc hc hN hy hyl hsw hi ok hg ht he hs).imp fun De σ H w => by
    obtain ⟨θ, σh, A, Dh, rs, ra, w, k⟩ := w
    refine lift_lc lg kp σ H _ ⟨θ, σh, A, _, rs, ra, w, fun θ1 H1 A1 v d e1 ra1 r1 w1 => ?_⟩
    exact k.nx _ _ _ _ _ e1 (RS.set (.some r1) i (rs.ext e1)) ra1 w1
end
end Rp

namespace Rp
open PySem PySem.Spec PyProof.Rows L2
/-! ### ranges, sums -/
section
variable {X : Cx}
/-- range(n), as a value -/
theorem call_range1 : CallR X (.type "range") (fun vs H Q => ∃ n : Int, vs = [V.int n] ∧ ∀ p, H p = none → Q (.ref p) (upd H p (.rng 0 n))) := by
  intro pins s σ H vs us Q I r h
  obtain ⟨n, rfl, q⟩ := h
  cases r with
  | cons r1 rr =>
    cases rr
    obtain ⟨t, rfl⟩ := r1
    refine call_range_1 ⟨.ref s.heap.objs.size, upd H s.heap.objs.size (.rng 0 n), I.laid (a := s.heap.objs.size) (o := .rng 0 n) (fun b o e => Heap.get?_push_of_some _ e) (Nat.le_refl _) ?_, rfl, q _ (I.hok.fresh (Nat.le_refl _))⟩
    exact ⟨_, _, _, Heap.get?_push_size _ rfl⟩
/-- len of a range -/
theorem call_lenRng : CallR X (.builtin "len") (fun vs H Q => ∃ (a : Addr) (n : Nat), vs = [V.ref a] ∧ H a = some (.rng 0 n) ∧ n < 2 ^ 62 ∧ Q (.int n) H) := by
  intro pins s σ H vs us Q I r h
  obtain ⟨a, n, rfl, ha, hn, q⟩ := h
  cases r with
  | cons r1 rr =>
    cases rr
    cases r1
    obtain ⟨t1, t2, t3, ho⟩ := I.hok a _ ha
    refine call_len_range (n := n) ho ?_ (by omega) ⟨.int n, H, I.tok _, ⟨_, rfl⟩, q⟩
    unfold Builtin.Range.rangeSize
    simp
    try omega
/-- sum of a tuple of whole numbers -/
theorem call_sumT (hc : X.calm = true) : CallR X (.builtin "sum") (fun vs H Q => ∃ (a : Addr) (ns : List Int), vs = [V.ref a] ∧ SqT X.K H a (ns.map V.int) ∧ Q (.int ns.sum) H) := by
  intro pins s σ H vs us Q I r h
  obtain ⟨a, ns, rfl, ha, q⟩ := h
  cases r with
  | cons r1 rr =>
    cases rr
    cases r1
    obtain ⟨its, rv, hl, _⟩ := I.tuple ha
    have hi := rv.ints
    obtain ⟨xs, hx⟩ := hi.allInts.items
    have hn : numsOf its.toArray.toList = ns := by rw [show its.toArray.toList = its from rfl, hi.numsOf]
    rw [hx] at hl hn
    rw [nums_intItems] at hn
    refine PySem.W.ktm_sumG (I.ok.hd hc) hl fun h' tk t' hk => ?_
    rw [preSum_eq, List.take_of_length_le (by simp), hn]
    exact ⟨.int ns.sum, H, I.kept hk, ⟨_, rfl⟩, q⟩
end
/-! ### len(x), x's own __len__ -/
section
variable {X : Cx} {CX : CXT} {k : Nat} {f C : Addr} {fd : FuncData} {ps : List Str} {sp : Sp} {E : XK}
def rLenI (C : Addr) (sp : Sp) (E : XK) : List V → Hp → VK → Prop := fun xs H Q => ∃ (a dx : Addr) (fs : List (Str × V)), xs = [.ref a] ∧ H a = some (.ins C dx fs) ∧ sp [.ref a] H (fun v H' => ∃ n : Nat, v = .int n ∧ n < 2 ^ 62 ∧ Q (.int n) H') E
theorem call_lenI (F : FnOk X.prog X.w X.K X.mg X.base CX k f fd ps sp) (hs : PySem.W.findIn X.K (.ref C) "__len__" = some (some (.ref f))) (hf : PySem.W.isFn X.K (.ref f) = true) (hb : L2.Binds X.K fd ps []) (hx : Passes CX X E) (hr : Room (k + 1) X.A) :
    CallR X (.builtin "len") (rLenI C sp E) := by
  intro pins s σ H vs us Q I r h
  obtain ⟨a, dx, fs, rfl, ha, hsp⟩ := h
  cases r with
  | cons r1 rr =>
    cases rr
    cases r1
    obtain ⟨mA, J, _⟩ := ins_get I.hok ha
    obtain ⟨od, J, _⟩ := J.look
    obtain ⟨m, hF⟩ := I.fr
    have e0 : Env0 X.prog X.w X.K X.mg X.base X.A.in1 X.stack s H := by
      have e := I.env0
      exact ⟨e.frames, e.mod, e.bs, e.bsz, e.funs, e.frf, e.hok, e.bare⟩
    have hl := F.len _ _ _ _ hsp
    refine PySem.W.len_K hF I.ok.mod.kin J hs hf (wpAny_call (codeAny_mono (F.run X.A.in1 X.stack s H ⟨[.ref a], []⟩ [.ref a] [.ref a] _ E hr.in1 e0 (by
      have := hb s [.ref a] I.kIn (by simpa using hl)
      simpa using this) (.cons rfl .nil) hsp) fun r s' hq => ?_))
    cases r with
    | error e => exact hx pins σ H s e s' I hq
    | ok fl =>
      cases fl with
      | ret w =>
        obtain ⟨z, H', I', rz, n, ez, hn, q⟩ := I.after hq
        subst ez
        obtain ⟨t, rfl⟩ := rz
        show PySem.W.LenBack _ _ _
        exact ⟨⟨by omega, by omega⟩, .int n, H', I'.tok _, ⟨_, rfl⟩, q⟩
      | next => exact False.elim hq
      | brk => exact False.elim hq
      | cont => exact False.elim hq
end
/-! ### a def that may be called while an error is handled, too; nothing is being shown around it -/
structure RoomA (k : Nat) (A : Around) : Prop where
  dp : A.depth + 3 * k + 5 < recursionLimit
  un : A.units + 16 * k + 200 < cLine
theorem RoomA.of {k : Nat} {A : Around} (r : Room k A) : RoomA k A := ⟨r.dp, r.un⟩
structure FnA (P : Program) (w : World) (K : PySem.W.Frag) (mg : Str → Option Value) (base : Heap) (CX : CXT) (k : Nat) (f : Addr) (fd : FuncData) (ps : List Str) (sp : Sp) : Prop where
  len : ∀ vs H Q E, sp vs H Q E → vs.length = ps.length
  go : ∀ (A : Around) (outer : List Env) (s : Shared) (H : Hp) (args : Args) (us : List Value) (vs : List V) (Q : VK) (E : XK), A.guards = some [] → RoomA k A → Env0 P w K mg base A outer s H →
    BindsTo s fd args (ps.zip us) → Vals vs us → sp vs H Q E → codeAny (model P w) A (.call (.ref f) args) (CR CX outer P w H s Q E) s
/-- the body's context -/
def cxA (CX : CXT) (P : Program) (w : World) (K : PySem.W.Frag) (mg : Str → Option Value) (base : Heap) (N : List Str) (qual : Str) (scope : Scope) (f : Addr) (cd : Value) (A : Around) (outer : List Env) (s : Shared) (H : Hp) (E : XK) : Cx :=
  { cxOf CX P w K mg base N qual scope f cd A outer s H E with calm := false }
section
variable {P : Program} {w : World} {K : PySem.W.Frag} {mg : Str → Option Value} {base : Heap} {CX : CXT}
theorem startA {N ps : List Str} {qual : Str} {scope : Scope} {f : Addr} {cd : Value} {A : Around} {outer : List Env} {s s1 : Shared} {H : Hp} {E : XK} {us : List Value} {vs : List V}
    (S : FnScope N ps scope) (e0 : Env0 P w K mg base A outer s H) (hl : vs.length = ps.length) (r : Vals vs us)
    (x : InCallC s s.heap.objs.size (bindL (envOfC qual scope s.heap.objs.size f cd).kindOf (ps.zip us) fun _ => none) (cellsFrom (s.heap.objs.size + 1) scope.names []) (bindC (envOfC qual scope s.heap.objs.size f cd).kindOf (ps.zip us) fun _ => none) s1) :
    Inv (cxA CX P w K mg base N qual scope f cd A outer s H E) [] (start N vs) H s1 := by
  have I := inv_start (CX := CX) (A := { A with handled := none }) (E := E) S rfl (⟨e0.frames, e0.mod, e0.bs, e0.bsz, e0.funs, e0.frf, e0.hok, e0.bare⟩ : Env0 P w K mg base { A with handled := none } outer s H) hl r x
  have o := I.ok
  exact ⟨⟨o.mod, o.kind, o.glob, o.blt, o.above, o.inj, o.has, o.cab, (fun z => Bool.noConfusion (show false = true from z)), o.frames, o.stk, o.exf, o.bs, o.bsz, o.noex, o.exfs, o.funs, o.frf⟩, I.os, I.bare, I.base, I.loc, I.cell, I.free, I.freeC, I.pin, I.hok, I.len⟩
theorem okA {x qual : Str} {st : Stmt} {f : Addr} {fd : FuncData} {N ps : List Str} {k : Nat} {sp : Sp} (F : Fun K x qual st f fd) (S : FnScope N ps (defScope st)) (len : ∀ vs H Q E, sp vs H Q E → vs.length = ps.length)
    (hb : ∀ (cdv : Value) (A : Around) (outer : List Env) (s : Shared) (H : Hp) (vs : List V) (Q : VK) (E : XK), (A.deeper (envOfC qual (defScope st) s.heap.objs.size f cdv)).guards = some [] → (A.deeper (envOfC qual (defScope st) s.heap.objs.size f cdv)).units + 200 < cLine → sp vs H Q E →
      ∃ t, PSs (cxA CX P w K mg base N qual (defScope st) f cdv A outer s H E) (defBody st) t ∧ t { nx := fun _ H' => Q .non H', rt := Q } (start N vs) H) : FnA P w K mg base CX (k + 1) f fd ps sp := by
  obtain ⟨oc, od, kV, doc, pm, an, cdv, ct, osl, rfl, lk, hcd⟩ := F.ex
  refine ⟨len, fun A outer s H args us vs Q E gA room en bi rel want => ?_⟩
  have kept : ∀ b o, base.get? b = some o → s.heap.get? b = some o := fun b o e => (en.bs b o e).1
  have inK : K.In s.heap := en.mod.kin.keeps kept
  refine codeAny_call_function (by have := room.dp; omega) (inK _ _ lk) rfl S.co S.gen rfl (PySem.W.codeRec_of inK hcd) (bi _ _ _ _ ?_)
  refine wpAny_newFunctionEnv_cells S.kind (fun y hy => ?_) fun env he s1 made => ?_
  · rcases S.par y.1 (List.of_mem_zip (show (y.1, y.2) ∈ ps.zip us from hy)).1 with q | q
    · exact .inl q
    · exact .inr ⟨q, PySem.W.cellsFrom_some _ _ _ (.inl q)⟩
  subst he
  refine ⟨(en.mod.nolimit.keeps kept).keeps made.toInCall.keep, codeAny_func ?_⟩
  obtain ⟨t, body, reads⟩ := hb cdv A outer s H vs Q E (deeper_guards gA) (by have := room.un; show A.units + 3 + 200 < _; omega) want
  refine wpAny_mono (body.run [] s1 (start N vs) H _ (startA S en (len _ _ _ _ want) rel made) reads) (fun fl s' hs => ?_) fun e s' hs => hs
  cases fl with
  | ret u =>
    obtain ⟨v, σ', H', J, rv, q⟩ := hs
    exact ⟨v, H', J.os, J.bare, J.base, J.hok, rv, q⟩
  | next =>
    obtain ⟨σ', H', J, q⟩ := hs
    exact ⟨V.non, H', J.os, J.bare, J.base, J.hok, rfl, q⟩
  | brk => exact absurd hs (fun ⟨_, _, _, z⟩ => (z : False))
  | cont => exact absurd hs (fun ⟨_, _, _, z⟩ => (z : False))
end
/-! ### repr(x), {x!r} -/
section
variable {X : Cx} {CX : CXT} {k : Nat} {f C : Addr} {fd : FuncData} {ps : List Str} {sp : Sp} {E : XK}
/-- {x!r} of small data -/
def tFmtRD (K : PySem.W.Frag) (te : TE) : TE := fun σ H Q => te σ H fun x H1 => ∃ (a : Addr) (d : PyData), x = .ref a ∧ Dp K H1 x d ∧ Shw d ∧ Q (.str d.shown) H1
theorem pe_fmtRD {e : Expr} {te : TE} {pos : Pos} (gA : X.A.guards = some []) (hu : X.A.units + 64 < cLine) (he : PE X e te) : PE X (.FormattedValue e 114 none pos) (tFmtRD X.K te) := by
  refine ⟨fun pins s σ H Q I h => ?_⟩
  refine wpAny_FormattedValue_repr (thn (he.run pins s σ H _ I h) fun v s1 hv => ?_)
  obtain ⟨x, H1, I1, r1, a, d, rfl, hd, hw, q⟩ := hv
  obtain ⟨as, rd⟩ := Dp.reads I1 d (.ref a) _ hd r1
  cases r1
  have dp := hw.dp
  refine pyReprObj_of_reads rd hw.sh (PyData.noDict_hsm hw.nd) gA (by omega) (fun _ _ z => z) (fun h' u tk kp => ?_) hw.sz
  exact wpAny_formatField_str ⟨.str d.shown, H1, I1.kept kp, ⟨_, rfl⟩, q⟩ ⟨.str d.shown, H1, (I1.kept (t' := tk) kp).tok _, ⟨_, rfl⟩, q⟩ hw.sz
def rReprI (C : Addr) (sp : Sp) (E : XK) : List V → Hp → VK → Prop := fun xs H Q => ∃ (a dx : Addr) (fs : List (Str × V)), xs = [.ref a] ∧ H a = some (.ins C dx fs) ∧ sp [.ref a] H (fun v H' => ∃ t : Str, v = .str t ∧ Q (.str t) H') E
theorem call_reprI (F : FnA X.prog X.w X.K X.mg X.base CX k f fd ps sp) (hs : PySem.W.findIn X.K (.ref C) "__repr__" = some (some (.ref f))) (hf : PySem.W.isFn X.K (.ref f) = true) (hb : L2.Binds X.K fd ps []) (hx : Passes CX X E) (gA : X.A.guards = some []) (hr : RoomA (k + 1) X.A) :
    CallR X (.builtin "repr") (rReprI C sp E) := by
  intro pins s σ H vs us Q I r h
  obtain ⟨a, dx, fs, rfl, ha, hsp⟩ := h
  cases r with
  | cons r1 rr =>
    cases rr
    cases r1
    obtain ⟨mA, J, _⟩ := ins_get I.hok ha
    obtain ⟨od, J, _⟩ := J.look
    obtain ⟨m, hF⟩ := I.fr
    have e0 : Env0 X.prog X.w X.K X.mg X.base X.A.in1 X.stack s H := by
      have e := I.env0
      exact ⟨e.frames, e.mod, e.bs, e.bsz, e.funs, e.frf, e.hok, e.bare⟩
    have hl := F.len _ _ _ _ hsp
    have d1 := hr.dp
    have u1 := hr.un
    refine PySem.W.repr_K (by show X.A.units + 1 < _; omega) hF I.ok.mod.kin J hs hf (wpAny_call (codeAny_mono (F.go X.A.in1 X.stack s H ⟨[.ref a], []⟩ [.ref a] [.ref a] _ E gA ⟨by show X.A.depth + 3 * k + 5 < _; omega, by show X.A.units + 1 + 16 * k + 200 < _; omega⟩ e0 (by
      have := hb s [.ref a] I.kIn (by simpa using hl)
      simpa using this) (.cons rfl .nil) hsp) fun r s' hq => ?_))
    cases r with
    | error e => exact hx pins σ H s e s' I hq
    | ok fl =>
      cases fl with
      | ret w =>
        obtain ⟨z, H', I', rz, t, ez, q⟩ := I.after hq
        subst ez
        obtain ⟨tk, rfl⟩ := rz
        show PySem.W.StrBack _ _ _
        exact ⟨.str t, H', I', ⟨_, rfl⟩, q⟩
      | next => exact False.elim hq
      | brk => exact False.elim hq
      | cont => exact False.elim hq
/-- a dict of small numbers -/
def DkAt (H : Hp) (v : V) (d : PyData) : Prop := ∃ (a : Addr) (ns : List (Int × Int)), v = .ref a ∧ H a = some (.dK (ns.map fun p => (Sum.inl p.1, V.int p.2))) ∧ d = .dict (ns.map fun p => (.int p.1, .int p.2))
theorem dk_pairs {h : Heap} : ∀ {ns : List (Int × Int)} {vs : List (Key × Value)}, KV (ns.map fun p => ((Sum.inl p.1 : Key), V.int p.2)) vs → ∃ bs, PyProof.V.PairsRead h (fun k : Key => match k with | .inl i => PyData.int i | .inr x => PyData.str x) vs (ns.map fun p => (.int p.1, .int p.2)) bs
  | [], _, r => by
    cases r
    exact ⟨_, .nil⟩
  | p :: ns, _, r => by
    cases r with
    | @cons _ q _ qs e t =>
      obtain ⟨qk, qv⟩ := q
      obtain ⟨e1, tk, e2⟩ := e
      obtain ⟨bs, ih⟩ := dk_pairs (h := h) t
      simp only at e1 e2
      subst e1 e2
      exact ⟨_, .cons (.int _ _) ih⟩
theorem dk_reads {pins : List (Addr × Obj)} {σ : L2.St} {H : Hp} {s : Shared} {v : V} {d : PyData} {u : Value} (I : Inv X pins σ H s) (h : DkAt H v d) (r : RelV v u) : ∃ a as, u = .ref a ∧ Reads s.heap (.ref a) d as ∧ sysModules ∉ as := by
  obtain ⟨a, ns, rfl, ha, rfl⟩ := h
  cases r
  obtain ⟨_, hne, vs, rel, dd⟩ := I.hok a _ ha
  obtain ⟨bs, pr⟩ := dk_pairs (h := s.heap) rel
  have nb : bs = [] := by
    clear dd rel
    generalize hD : (ns.map fun p => (PyData.int p.1, PyData.int p.2)) = D at pr
    have : ∀ {kvs : List (Key × Value)} {D : List (PyData × PyData)} {bs : List Addr} {ns : List (Int × Int)}, (ns.map fun p => (PyData.int p.1, PyData.int p.2)) = D → PyProof.V.PairsRead s.heap (fun k : Key => match k with | .inl i => PyData.int i | .inr x => PyData.str x) kvs D bs → bs = [] := by
      intro kvs D bs ns e p
      induction p generalizing ns with
      | nil => rfl
      | @cons k' v' d' as kvs D bs r _ ih =>
        cases ns with
        | nil => cases e
        | cons n ns =>
          injection e with e1 e2
          injection e1 with _ e3
          subst e3
          cases r
          rw [ih e2]
          rfl
    exact this hD pr
  subst nb
  refine ⟨a, [a], rfl, PyProof.V.reads_dictOf (fun k key hk => ?_) dd pr, fun z => ?_⟩
  · rcases keyIs_shape hk with ⟨i, t, rfl, rfl⟩ | ⟨x, t, rfl, rfl⟩
    · exact .int _ _
    · exact .str _ _
  · rw [List.mem_singleton.mp z] at hne
    simp at hne
end
end Rp

/-! Calls, defs, built-ins, attributes over data. -/
namespace Rp
open PySem PySem.Spec PyProof.Rows L2
abbrev Sph := List D → OH → KH → Prop
def spOf (K : PySem.W.Frag) (n : Nat) (sp : Sph) : Sp := fun vs H Q _ => vs.length = n ∧ ∃ θ ds A Qh, RDs K θ H vs ds ∧ RA K θ H A ∧ sp ds A Qh ∧ Kt K θ H Q Qh
/-- a call is asked -/
structure Ask (sp : Sph) (ds : List D) (A : OH) (Q : KH) : Prop where
  h : sp ds A Q
def nArgs (n m : Nat) (p : Prop) : Prop := match Nat.beq n m with | true => p | false => False
theorem nArgs_ok {n m : Nat} {p : Prop} (h : nArgs n m p) : n = m ∧ p := by
  unfold nArgs at h
  split at h
  · rename_i e
    exact ⟨Nat.eq_of_beq_eq_true e, h⟩
  · exact h.elim
def hCall (n : Nat) (sp : Sph) (t : TAh) : TEh := fun σ A Q => t σ A fun ds A1 => nArgs ds.length n (Ask sp ds A1 Q)
section
variable {X : Cx} {CX : CXT} {k n : Nat} {f C : Addr} {fd : FuncData} {ps : List Str} {sp : Sph} {x m : Str} {p pos apos : Pos} {e o : Expr} {es : List Expr} {ta : TEh} {t : TAh}
theorem ph_call (F : FnG X.prog X.w X.K X.mg X.base CX0 k f fd ps (spOf X.K n sp)) (gA : X.A.guards = some []) (room : Room k X.A) (hg : Gl X x) (hm : X.mg x = some (.ref f)) (hk : PySem.W.keepIn X.K (.ref f) = true) (hb : L2.Binds X.K fd ps [])
    (ha : PA X (e :: es) (liftA X.K t)) (hdb : (x == ("__debug__" : Str)) = false := by decide) (hst : starEach (e :: es) X.env = (false, eval e X.env) :: starEach es X.env := by rfl)
    (hpl : (backTo pos (starEach es X.env)).any (·.1) = false := by rfl) : PE X (.Call (.Name x p) (e :: es) [] pos) (lift X.K (hCall n sp t)) :=
  (pe_callG (E := fun _ _ _ => False) F gA room hg hm hk hb pass0 ha hdb hst hpl).imp fun σ H Q ⟨θ, σh, A, Qh, rs, ra, w, k⟩ => ⟨θ, σh, A, _, rs, ra, w, fun θ1 H1 A1 vs ds e1 ra1 r1 w1 => by
    obtain ⟨hn, w1⟩ := nArgs_ok w1
    exact ⟨by rw [r1.length]; exact hn, θ1, ds, A1, Qh, r1, ra1, w1.h, k.ext e1⟩⟩
theorem ph_callO (F : FnOk X.prog X.w X.K X.mg X.base CX0 k f fd ps (spOf X.K n sp)) (room : Room k X.A) (hg : Gl X x) (hm : X.mg x = some (.ref f)) (hk : PySem.W.keepIn X.K (.ref f) = true) (hb : L2.Binds X.K fd ps [])
    (ha : PA X (e :: es) (liftA X.K t)) (hdb : (x == ("__debug__" : Str)) = false := by decide) (hst : starEach (e :: es) X.env = (false, eval e X.env) :: starEach es X.env := by rfl)
    (hpl : (backTo pos (starEach es X.env)).any (·.1) = false := by rfl) : PE X (.Call (.Name x p) (e :: es) [] pos) (lift X.K (hCall n sp t)) :=
  (pe_call (E := fun _ _ _ => False) F room hg hm hk hb .nil pass0 ha hdb hst hpl).imp fun σ H Q ⟨θ, σh, A, Qh, rs, ra, w, k⟩ => ⟨θ, σh, A, _, rs, ra, w, fun θ1 H1 A1 vs ds e1 ra1 r1 w1 => by
    obtain ⟨hn, w1⟩ := nArgs_ok w1
    rw [List.append_nil]
    exact ⟨by rw [r1.length]; exact hn, θ1, ds, A1, Qh, r1, ra1, w1.h, k.ext e1⟩⟩
/-- o.m(..) -/
def hMeth (C : Addr) (m : Str) (n : Nat) (sp : Sph) (ta : TEh) (t : TAh) : TEh := fun σ A Q => ta σ A fun x A1 => match x with
  | .ptr i => ∃ fs, A1[i]? = some (.ins C fs) ∧ fs.lookup m = none ∧ t σ A1 fun ds A2 => nArgs (ds.length + 1) n (Ask sp (.ptr i :: ds) A2 Q)
  | _ => False
theorem ph_meth {pl : Sem Bool} (he : PE X o (lift X.K ta)) (c : Cls X.K C) (hm : Meth X.K C m f) (F : FnOk X.prog X.w X.K X.mg X.base CX0 k f fd ps (spOf X.K n sp)) (hr : Room k X.A) (hb : L2.Binds X.K fd ps []) (ha : PA X (e :: es) (liftA X.K t))
    (hst : starEach (e :: es) X.env = (false, eval e X.env) :: starEach es X.env := by rfl) (hpl : (backTo pos (starEach es X.env)).any (·.1) = false := by rfl)
    (ht : eval (.Call (.Attribute o m apos) (e :: es) [] pos) X.env = (do
      let ov ← eval o X.env
      standAt apos.atName
      let (f, first) ← holding [ov] (getMethod ov m pl)
      callWith pos f first (backTo pos (starEach (e :: es) X.env)) (backToKw pos (keywordEach [] X.env))) := by rfl) :
    PE X (.Call (.Attribute o m apos) (e :: es) [] pos) (lift X.K (hMeth C m n sp ta t)) :=
  (pe_meth (pl := pl) (E := fun _ _ _ => False) he c hm F hr hb .nil pass0 ha hst hpl ht).imp fun σ H Q ⟨θ, σh, A, Qh, rs, ra, w, k⟩ => ⟨θ, σh, A, _, rs, ra, w, fun θ1 H1 A1 v d e1 ra1 r1 w1 => by
    split at w1
    · obtain ⟨fs, h1, h2, w1⟩ := w1
      cases r1 with
      | ptr hi =>
        obtain ⟨dx, xs, g, _, rf⟩ := ra1.ok _ _ _ hi h1
        refine ⟨_, dx, xs, rfl, g, rf.lookup_none h2, θ1, σh, A1, _, rs.ext e1, ra1, w1, fun θ2 H2 A2 vs ds e2 ra2 r2 w2 => ?_⟩
        obtain ⟨hn, w2⟩ := nArgs_ok w2
        rw [List.append_nil]
        exact ⟨by rw [List.length_cons, r2.length]; exact hn, θ2, _, A2, Qh, .cons ((RD.ptr hi).ext e2) r2, ra2, w2.h, (k.ext e1).ext e2⟩
    · exact w1.elim⟩
theorem ph_meth0 {pl : Sem Bool} (he : PE X o (lift X.K ta)) (c : Cls X.K C) (hm : Meth X.K C m f) (F : FnOk X.prog X.w X.K X.mg X.base CX0 k f fd ps (spOf X.K n sp)) (hr : Room k X.A) (hb : L2.Binds X.K fd ps [])
    (ht : eval (.Call (.Attribute o m apos) [] [] pos) X.env = (do
      let ov ← eval o X.env
      standAt apos.atName
      let (f, first) ← holding [ov] (getMethod ov m pl)
      callWith pos f first (backTo pos (starEach [] X.env)) (backToKw pos (keywordEach [] X.env))) := by rfl) :
    PE X (.Call (.Attribute o m apos) [] [] pos) (lift X.K (hMeth C m n sp ta hNil)) :=
  (pe_meth0 (pl := pl) (E := fun _ _ _ => False) he c hm F hr hb .nil pass0 ht).imp fun σ H Q ⟨θ, σh, A, Qh, rs, ra, w, k⟩ => ⟨θ, σh, A, _, rs, ra, w, fun θ1 H1 A1 v d e1 ra1 r1 w1 => by
    split at w1
    · obtain ⟨fs, h1, h2, w1⟩ := w1
      cases r1 with
      | ptr hi =>
        obtain ⟨dx, xs, g, _, rf⟩ := ra1.ok _ _ _ hi h1
        obtain ⟨hn, w2⟩ := nArgs_ok w1
        exact ⟨_, dx, xs, rfl, g, rf.lookup_none h2, hn, θ1, _, A1, Qh, .cons (.ptr hi) .nil, ra1, w2.h, k.ext e1⟩
    · exact w1.elim⟩
/-- C(..): a new instance, then __init__ -/
def hMake (C : Addr) (n : Nat) (sp : Sph) (t : TAh) : TEh := fun σ A Q => t σ A fun ds A1 => nArgs (ds.length + 1) n (∀ i A2, New A1 i (.ins C []) A2 → Ask sp (.ptr i :: ds) A2 fun r A3 => r = .v .non ∧ Q (.ptr i) A3)
theorem ph_make (M : Mk X.K C f) (F : FnOk X.prog X.w X.K X.mg X.base CX0 k f fd ps (spOf X.K n sp)) (hr : Room (k + 1) X.A) (hg : Gl X x) (hm : X.mg x = some (.ref C)) (hb : L2.Binds X.K fd ps [])
    (ha : PA X (e :: es) (liftA X.K t)) (hdb : (x == ("__debug__" : Str)) = false := by decide) (he : starEach (e :: es) X.env = (false, eval e X.env) :: starEach es X.env := by rfl) (hpl : (backTo pos (starEach es X.env)).any (·.1) = false := by rfl) :
    PE X (.Call (.Name x p) (e :: es) [] pos) (lift X.K (hMake C n sp t)) :=
  (pe_make (E := fun _ _ _ => False) M F hr hg hm hb .nil pass0 ha hdb he hpl).imp fun σ H Q ⟨θ, σh, A, Qh, rs, ra, w, k⟩ => ⟨θ, σh, A, _, rs, ra, w, fun θ1 H1 A1 vs ds e1 ra1 r1 w1 x dx hx hdx ne => by
    obtain ⟨hn, w1⟩ := nArgs_ok w1
    have hs : Same H1 (upd (upd H1 dx (.own x)) x (.ins C dx [])) := fun b u e => by rw [upd_ne (ne_of_none e hx), upd_ne (ne_of_none e hdx)]; exact e
    have hi : (θ1 ++ [x])[A1.length]? = some x := by rw [← ra1.len]; simp
    have e2 : Ext θ1 H1 (θ1 ++ [x]) (upd (upd H1 dx (.own x)) x (.ins C dx [])) := .add hx hs
    rw [List.append_nil]
    refine ⟨by rw [List.length_cons, r1.length]; exact hn, θ1 ++ [x], .ptr A1.length :: ds, A1 ++ [.ins C []], _, .cons (.ptr hi) (r1.ext e2), ra1.add (o := .ins C []) hx hs ⟨dx, [], upd_same, by rw [upd_ne ne, upd_same], .nil⟩, (w1 _ _ ⟨rfl, rfl⟩).h, fun θ3 H3 A3 v d e3 ra3 r3 q3 => ?_⟩
    obtain ⟨rfl, q⟩ := q3
    cases r3
    exact ⟨rfl, k _ _ _ _ _ ((e1.trans e2).trans e3) ra3 ((RD.ptr hi).ext e3) q⟩⟩
end
/-! ### a def by its body -/
section
variable {P : Program} {w : World} {K : PySem.W.Frag} {mg : Str → Option Value} {base : Heap}
/-- what is wanted behind a def -/
def endH (Q : KH) : Eh := { nx := fun _ A => Q (.v .non) A, rt := Q }
theorem body_h {ps N : List Str} {sp : Sph} {t : TSh} {vs : List V} {H : Hp} {Q : VK} {E : XK} (h : spOf K ps.length sp vs H Q E) (go : ∀ ds A Q, sp ds A Q → t (endH Q) (startH N.length ds) A) : liftS K t { nx := fun _ H' => Q .non H', rt := Q } (L2.start N vs) H := by
  obtain ⟨_, θ, ds, A, Qh, r, ra, w, k⟩ := h
  exact ⟨θ, _, A, endH Qh, .start r, ra, go ds A Qh w, ⟨fun θ' σ' H' σh' A' e rs' ra' q => k _ _ _ _ _ e ra' (.v _) q, k, fun θ' σ' H' σh' A' e rs' ra' q => q, fun θ' σ' H' σh' A' e rs' ra' q => q⟩⟩
theorem okH {x qual : Str} {st : Stmt} {f : Addr} {fd : FuncData} {N ps : List Str} {k : Nat} {sp : Sph} (F : Fun K x qual st f fd) (S : FnScope N ps (defScope st))
    (hb : ∀ (cdv : Value) (A : Around) (outer : List Env) (s : Shared) (H : Hp) (E : XK), Room k (A.deeper (envOfC qual (defScope st) s.heap.objs.size f cdv)) →
      ∃ t, PSs (cxOf CX0 P w K mg base N qual (defScope st) f cdv A outer s H E).nox (defBody st) (liftS K t) ∧ ∀ ds A Q, sp ds A Q → t (endH Q) (startH N.length ds) A) : FnOk P w K mg base CX0 (k + 1) f fd ps (spOf K ps.length sp) :=
  F.ok S (fun vs H Q E h => h.1) fun cdv A outer s H vs Q E room h => by
    obtain ⟨t, body, go⟩ := hb cdv A outer s H E room
    exact ⟨_, body, body_h h go⟩
theorem okGH {x qual : Str} {st : Stmt} {f : Addr} {fd : FuncData} {N ps : List Str} {k : Nat} {sp : Sph} (F : Fun K x qual st f fd) (S : FnScope N ps (defScope st))
    (hb : ∀ (cdv : Value) (A : Around) (outer : List Env) (s : Shared) (H : Hp) (E : XK), (A.deeper (envOfC qual (defScope st) s.heap.objs.size f cdv)).guards = some [] → Room k (A.deeper (envOfC qual (defScope st) s.heap.objs.size f cdv)) →
      ∃ t, PSs (cxOf CX0 P w K mg base N qual (defScope st) f cdv A outer s H E).nox (defBody st) (liftS K t) ∧ ∀ ds A Q, sp ds A Q → t (endH Q) (startH N.length ds) A) : FnG P w K mg base CX0 (k + 1) f fd ps (spOf K ps.length sp) :=
  okG F S (fun vs H Q E h => h.1) fun cdv A outer s H vs Q E gA room h => by
    obtain ⟨t, body, go⟩ := hb cdv A outer s H E gA room
    exact ⟨_, body, body_h h go⟩
end
/-- the law's own promise -/
def spLawH : Sph := fun ds A Q => ∃ ns : List Int, ds = [.scr ns] ∧ ns.length ≤ 63 ∧ ∀ A', Q (.v (.bl true)) A'
theorem lawH {K : PySem.W.Frag} {H : Hp} {a : Addr} {ns : List Int} (hn : ns.length ≤ 63) (on : Only H) (hS : SqL K H a (ns.map V.int)) : spOf K 1 spLawH [.ref a] H (fun v _ => v = .bl true) fun _ _ _ => False := by
  have hf : SqF K H a (ns.map V.int) := by
    rcases hS with (h | h) | h
    · rcases on a with q | ⟨o, xs, q⟩
      · rw [h] at q; cases q
      · rw [h] at q; cases q
    · exact .inl h
    · exact .inr h
  refine ⟨rfl, [], [.scr ns], [], fun d _ => d = .v (.bl true), .cons (.scr hf) .nil, ⟨rfl, List.nodup_nil, fun i a o h => by simp at h⟩, ⟨ns, rfl, hn, fun _ => rfl⟩, fun θ' H' A' v d e ra r q => ?_⟩
  subst q
  cases r
  rfl
/-! ### built-ins -/
def LC (K : PySem.W.Frag) (r : List V → Hp → VK → Prop) (rh : List D → OH → KH → Prop) : Prop := ∀ θ H A xs ds Q Qh, RDs K θ H xs ds → RA K θ H A → rh ds A Qh → Kt K θ H Q Qh → r xs H Q
def hCB (rh : List D → OH → KH → Prop) (t : TAh) : TEh := fun σ A Q => t σ A fun ds A1 => rh ds A1 Q
section
variable {X : Cx} {x : Str} {p pos : Pos} {e : Expr} {es : List Expr} {t : TAh} {id T : String} {r : List V → Hp → VK → Prop} {rh : List D → OH → KH → Prop}
theorem lift_cb {K : PySem.W.Frag} (l : LC K r rh) (σ : L2.St) (H : Hp) (Q : VK) : lift K (hCB rh t) σ H Q → tCB r (liftA K t) σ H Q := fun ⟨θ, σh, A, Qh, rs, ra, w, k⟩ =>
  ⟨θ, σh, A, _, rs, ra, w, fun θ1 H1 A1 vs ds e1 ra1 r1 w1 => l _ _ _ _ _ _ _ r1 ra1 w1 (k.ext e1)⟩
theorem ph_callB (l : LC X.K r rh) (hc : CallR X (.builtin id) r) (hg : Gl X x) (hm : X.mg x = none) (hv : bootBuiltins x = some (.builtin id)) (ha : PA X (e :: es) (liftA X.K t)) (hn : x ≠ "__name__" := by decide) (hdb : (x == ("__debug__" : Str)) = false := by decide)
    (he : starEach (e :: es) X.env = (false, eval e X.env) :: starEach es X.env := by rfl) (hpl : (backTo pos (starEach es X.env)).any (·.1) = false := by rfl) : PE X (.Call (.Name x p) (e :: es) [] pos) (lift X.K (hCB rh t)) :=
  (pe_callB hc hg hm hv ha hn hdb he hpl).imp (lift_cb l)
theorem ph_callTy (l : LC X.K r rh) (hc : CallR X (.type T) r) (hg : Gl X x) (hm : X.mg x = none) (hv : bootBuiltins x = some (.type T)) (ha : PA X (e :: es) (liftA X.K t)) (hn : x ≠ "__name__" := by decide) (hdb : (x == ("__debug__" : Str)) = false := by decide)
    (he : starEach (e :: es) X.env = (false, eval e X.env) :: starEach es X.env := by rfl) (hpl : (backTo pos (starEach es X.env)).any (·.1) = false := by rfl) : PE X (.Call (.Name x p) (e :: es) [] pos) (lift X.K (hCB rh t)) :=
  (pe_callTy hc hg hm hv ha hn hdb he hpl).imp (lift_cb l)
variable {K : PySem.W.Frag}
theorem RDs.one {θ : List Addr} {H : Hp} {xs : List V} {d : D} (r : RDs K θ H xs [d]) : ∃ x, xs = [x] ∧ RD K θ H x d := by
  cases r with
  | cons h t => cases t; exact ⟨_, rfl, h⟩
theorem RDs.two {θ : List Addr} {H : Hp} {xs : List V} {d e : D} (r : RDs K θ H xs [d, e]) : ∃ x y, xs = [x, y] ∧ RD K θ H x d ∧ RD K θ H y e := by
  cases r with
  | cons h t =>
    obtain ⟨y, rfl, hy⟩ := t.one
    exact ⟨_, _, rfl, h, hy⟩
def hLen : List D → OH → KH → Prop
  | [.tup es], A, Q => Q (.v (.int es.length)) A
  | [.ptr k], A, Q => ∃ es, A[k]? = some (.lst es) ∧ Q (.v (.int es.length)) A
  | [.scr ns], A, Q => Q (.v (.int ns.length)) A
  | [.v (.str y)], A, Q => y.length ≤ sizeLine ∧ Q (.v (.int y.length)) A
  | _, _, _ => False
theorem l_len : LC K (fun xs H Q => ∃ x n, xs = [x] ∧ LenV K x H n ∧ Q (.int n) H) hLen := by
  intro θ H A xs ds Q Qh r ra w k
  unfold hLen at w
  split at w
  · obtain ⟨x, rfl, rx⟩ := r.one
    cases rx with
    | tup hs r' => exact ⟨_, _, rfl, .inr ⟨_, hs, rfl⟩, by rw [r'.length]; exact k.here ra (.v _) w⟩
  · obtain ⟨es, h0, q⟩ := w
    obtain ⟨x, rfl, rx⟩ := r.one
    cases rx with
    | ptr hi =>
      obtain ⟨xs, g, r'⟩ := ra.ok _ _ _ hi h0
      exact ⟨_, _, rfl, .inl ⟨_, SqL.of g, rfl⟩, by rw [r'.length]; exact k.here ra (.v _) q⟩
  · obtain ⟨x, rfl, rx⟩ := r.one
    cases rx with
    | scr hs => exact ⟨_, _, rfl, .inl ⟨_, hs.l, rfl⟩, by rw [List.length_map]; exact k.here ra (.v _) w⟩
  · obtain ⟨x, rfl, rx⟩ := r.one
    cases rx
    exact ⟨_, _, rfl, ⟨w.1, rfl⟩, k.here ra (.v _) w.2⟩
  · exact w.elim
def hInt : List D → OH → KH → Prop
  | [.v (.int i)], A, Q => Q (.v (.int i)) A
  | [.v (.bl b)], A, Q => Q (.v (.int (if b = true then 1 else 0))) A
  | _, _, _ => False
theorem l_int : LC K (fun xs H Q => (∃ i, xs = [.int i] ∧ Q (.int i) H) ∨ ∃ k, xs = [.bl k] ∧ Q (.int (if k then 1 else 0)) H) hInt := by
  intro θ H A xs ds Q Qh r ra w k
  unfold hInt at w
  split at w
  · obtain ⟨x, rfl, rx⟩ := r.one
    cases rx
    exact .inl ⟨_, rfl, k.here ra (.v _) w⟩
  · obtain ⟨x, rfl, rx⟩ := r.one
    cases rx
    exact .inr ⟨_, rfl, k.here ra (.v _) w⟩
  · exact w.elim
def hList : List D → OH → KH → Prop
  | [.tup es], A, Q => NewQ A (.lst es) Q
  | [.ptr k], A, Q => ∃ es, A[k]? = some (.lst es) ∧ NewQ A (.lst es) Q
  | [.scr ns], A, Q => NewQ A (.lst (ns.map fun n => .v (.int n))) Q
  | _, _, _ => False
theorem l_list : LC K (fun xs H Q => ∃ p ys, xs = [.ref p] ∧ (SqL K H p ys ∨ SqT K H p ys) ∧ ∀ l, H l = none → Q (.ref l) (upd H l (.lst ys))) hList := by
  intro θ H A xs ds Q Qh r ra w k
  unfold hList at w
  split at w
  · obtain ⟨x, rfl, rx⟩ := r.one
    cases rx with
    | tup hs r' => exact ⟨_, _, rfl, .inr hs, fun l hl => k.lst ra r' w hl⟩
  · obtain ⟨es, h0, q⟩ := w
    obtain ⟨x, rfl, rx⟩ := r.one
    cases rx with
    | ptr hi =>
      obtain ⟨xs, g, r'⟩ := ra.ok _ _ _ hi h0
      exact ⟨_, _, rfl, .inl (SqL.of g), fun l hl => k.lst ra r' q hl⟩
  · obtain ⟨x, rfl, rx⟩ := r.one
    cases rx with
    | scr hs => exact ⟨_, _, rfl, .inl hs.l, fun l hl => k.lst ra (RDs.scal V.int _) w hl⟩
  · exact w.elim
def hTuple : List D → OH → KH → Prop
  | [.tup es], A, Q => Q (.tup es) A
  | [.ptr k], A, Q => ∃ es, A[k]? = some (.lst es) ∧ Q (.tup es) A
  | _, _, _ => False
theorem l_tuple : LC K (fun xs H Q => ∃ p ys, xs = [.ref p] ∧ ((SqL K H p ys ∧ ∀ l, H l = none → Q (.ref l) (upd H l (.tup ys))) ∨ (SqT K H p ys ∧ Q (.ref p) H))) hTuple := by
  intro θ H A xs ds Q Qh r ra w k
  unfold hTuple at w
  split at w
  · obtain ⟨x, rfl, rx⟩ := r.one
    cases rx with
    | tup hs r' => exact ⟨_, _, rfl, .inr ⟨hs, k.here ra (.tup hs r') w⟩⟩
  · obtain ⟨es, h0, q⟩ := w
    obtain ⟨x, rfl, rx⟩ := r.one
    cases rx with
    | ptr hi =>
      obtain ⟨xs, g, r'⟩ := ra.ok _ _ _ hi h0
      exact ⟨_, _, rfl, .inl ⟨SqL.of g, fun l hl => k.tup ra r' q hl⟩⟩
  · exact w.elim
/-- numbers as values -/
abbrev dI (ns : List Int) : List D := ns.map fun n => .v (.int n)
def rSumA (K : PySem.W.Frag) : List V → Hp → VK → Prop := fun vs H Q => rSum K vs H Q ∨ ∃ (a : Addr) (ns : List Int), vs = [V.ref a] ∧ SqT K H a (ns.map V.int) ∧ Q (.int ns.sum) H
theorem call_sumA (hc : X.calm = true) : CallR X (.builtin "sum") (rSumA X.K) := (cr_sum hc).or (call_sumT hc)
def hSum : List D → OH → KH → Prop
  | [.tup es], A, Q => ∃ ns, es = dI ns ∧ Q (.v (.int ns.sum)) A
  | [.ptr k], A, Q => ∃ ns, A[k]? = some (.lst (dI ns)) ∧ Q (.v (.int ns.sum)) A
  | [.scr ns], A, Q => Q (.v (.int ns.sum)) A
  | _, _, _ => False
theorem l_sum : LC K (rSumA K) hSum := by
  intro θ H A xs ds Q Qh r ra w k
  unfold hSum at w
  split at w
  · obtain ⟨ns, rfl, q⟩ := w
    obtain ⟨x, rfl, rx⟩ := r.one
    cases rx with
    | tup hs r' =>
      rw [r'.of_scal V.int] at hs
      exact .inr ⟨_, ns, rfl, hs, k.here ra (.v _) q⟩
  · obtain ⟨ns, h0, q⟩ := w
    obtain ⟨x, rfl, rx⟩ := r.one
    cases rx with
    | ptr hi =>
      obtain ⟨xs, g, r'⟩ := ra.ok _ _ _ hi h0
      rw [r'.of_scal V.int] at g
      exact .inl ⟨_, ns, rfl, SqL.of g, k.here ra (.v _) q⟩
  · obtain ⟨x, rfl, rx⟩ := r.one
    cases rx with
    | scr hs => exact .inl ⟨_, _, rfl, hs.l, k.here ra (.v _) w⟩
  · exact w.elim
def rMaxA (K : PySem.W.Frag) : List V → Hp → VK → Prop := fun xs H Q => (∃ i j, xs = [.int i, .int j] ∧ Q (.int (if j > i then j else i)) H) ∨ rMax K xs H Q
theorem call_maxA (hc : X.calm = true) : CallR X (.builtin "max") (rMaxA X.K) := (call_max2 hc).or (cr_max hc)
def rMinA (K : PySem.W.Frag) : List V → Hp → VK → Prop := fun xs H Q => (∃ i j, xs = [.int i, .int j] ∧ Q (.int (if j < i then j else i)) H) ∨ rMin K xs H Q
theorem call_minA (hc : X.calm = true) : CallR X (.builtin "min") (rMinA X.K) := (call_min2 hc).or (cr_min hc)
def hMax : List D → OH → KH → Prop
  | [.v (.int i), .v (.int j)], A, Q => Q (.v (.int (max i j))) A
  | [.ptr k], A, Q => ∃ ns, A[k]? = some (.lst (dI ns)) ∧ 0 < ns.length ∧ ∀ m, m ∈ ns → (∀ y, y ∈ ns → y ≤ m) → Q (.v (.int m)) A
  | _, _, _ => False
theorem l_max : LC K (rMaxA K) hMax := by
  intro θ H A xs ds Q Qh r ra w k
  unfold hMax at w
  split at w
  · rename_i i j
    obtain ⟨x, y, rfl, rx, ry⟩ := r.two
    cases rx
    cases ry
    have e : (if j > i then j else i) = max i j := by rw [Int.max_def]; split <;> split <;> omega
    refine .inl ⟨_, _, rfl, ?_⟩
    rw [e]
    exact k.here ra (.v _) w
  · obtain ⟨ns, h0, h1, q⟩ := w
    obtain ⟨x, rfl, rx⟩ := r.one
    cases rx with
    | ptr hi =>
      obtain ⟨xs, g, r'⟩ := ra.ok _ _ _ hi h0
      rw [r'.of_scal V.int] at g
      exact .inr ⟨_, ns, rfl, SqL.of g, h1, fun m hm hle => k.here ra (.v _) (q m hm hle)⟩
  · exact w.elim
def hMin : List D → OH → KH → Prop
  | [.v (.int i), .v (.int j)], A, Q => Q (.v (.int (min i j))) A
  | [.ptr k], A, Q => ∃ ns, A[k]? = some (.lst (dI ns)) ∧ 0 < ns.length ∧ ∀ m, m ∈ ns → (∀ y, y ∈ ns → m ≤ y) → Q (.v (.int m)) A
  | _, _, _ => False
theorem l_min : LC K (rMinA K) hMin := by
  intro θ H A xs ds Q Qh r ra w k
  unfold hMin at w
  split at w
  · rename_i i j
    obtain ⟨x, y, rfl, rx, ry⟩ := r.two
    cases rx
    cases ry
    have e : (if j < i then j else i) = min i j := by rw [Int.min_def]; split <;> split <;> omega
    refine .inl ⟨_, _, rfl, ?_⟩
    rw [e]
    exact k.here ra (.v _) w
  · obtain ⟨ns, h0, h1, q⟩ := w
    obtain ⟨x, rfl, rx⟩ := r.one
    cases rx with
    | ptr hi =>
      obtain ⟨xs, g, r'⟩ := ra.ok _ _ _ hi h0
      rw [r'.of_scal V.int] at g
      exact .inr ⟨_, ns, rfl, SqL.of g, h1, fun m hm hle => k.here ra (.v _) (q m hm hle)⟩
  · exact w.elim
def hAbs : List D → OH → KH → Prop
  | [.v (.int i)], A, Q => Q (.v (.int (if i < 0 then -i else i))) A
  | _, _, _ => False
theorem l_abs : LC K (fun xs H Q => ∃ i, xs = [.int i] ∧ Q (.int (if i < 0 then -i else i)) H) hAbs := by
  intro θ H A xs ds Q Qh r ra w k
  unfold hAbs at w
  split at w
  · obtain ⟨x, rfl, rx⟩ := r.one
    cases rx
    exact ⟨_, rfl, k.here ra (.v _) w⟩
  · exact w.elim
/-! ### data: == , !=, repr -/
mutual
inductive DP (A : OH) : D → PyData → Prop
  | non : DP A (.v .non) .none
  | bl (b : Bool) : DP A (.v (.bl b)) (.bool b)
  | int (i : Int) : DP A (.v (.int i)) (.int i)
  | str (x : Str) : DP A (.v (.str x)) (.str x)
  | tup {ds : List D} {ps : List PyData} (h : DPs A ds ps) : DP A (.tup ds) (.tuple ps)
  | lst {k : Nat} {ds : List D} {ps : List PyData} (h0 : A[k]? = some (.lst ds)) (h : DPs A ds ps) : DP A (.ptr k) (.list ps)
inductive DPs (A : OH) : List D → List PyData → Prop
  | nil : DPs A [] []
  | cons {d : D} {p : PyData} {ds : List D} {ps : List PyData} (h : DP A d p) (t : DPs A ds ps) : DPs A (d :: ds) (p :: ps)
end
mutual
theorem DP.dp {θ : List Addr} {H : Hp} {A : OH} (ra : RA K θ H A) : ∀ {d : D} {p : PyData} {v : V}, DP A d p → RD K θ H v d → Dp K H v p
  | _, _, _, .non, r => by cases r; exact .non
  | _, _, _, .bl b, r => by cases r; exact .bl b
  | _, _, _, .int i, r => by cases r; exact .int i
  | _, _, _, .str x, r => by cases r; exact .str x
  | _, _, _, .tup h, r => by
    cases r with
    | tup hs r => exact .tup hs (DPs.dp ra h r)
  | _, _, _, .lst h0 h, r => by
    cases r with
    | ptr hi =>
      obtain ⟨xs, g, r'⟩ := ra.ok _ _ _ hi h0
      exact .lst (SqL.of g) (DPs.dp ra h r')
theorem DPs.dp {θ : List Addr} {H : Hp} {A : OH} (ra : RA K θ H A) : ∀ {d : List D} {p : List PyData} {v : List V}, DPs A d p → RDs K θ H v d → DpAll K H v p
  | _, _, _, .nil, r => by cases r; exact .nil
  | _, _, _, .cons h t, r => by
    cases r with
    | cons r1 r2 => exact .cons (DP.dp ra h r1) (DPs.dp ra t r2)
end
/-- d == e is b -/
def EqD (A : OH) (d e : D) (b : Bool) : Prop := ∃ p q, DP A d p ∧ DP A e q ∧ SeqAt.shaped p = true ∧ SeqAt.shaped q = true ∧ PyData.eqv p q = b
def hEq : R2h
  | .v (.int i), .v (.int j), A, Q => Q (.v (.bl (decide (i = j)))) A
  | .v (.str i), .v (.str j), A, Q => Q (.v (.bl (decide (i = j)))) A
  | .v (.bl i), .v (.bl j), A, Q => Q (.v (.bl (decide (i = j)))) A
  | .v .non, .v (.int _), A, Q => Q (.v (.bl false)) A
  | .v (.int _), .v .non, A, Q => Q (.v (.bl false)) A
  | .v .non, .v .non, A, Q => Q (.v (.bl true)) A
  | d, e, A, Q => ∃ b, EqD A d e b ∧ Q (.v (.bl b)) A
def hNe : R2h
  | .v (.int i), .v (.int j), A, Q => Q (.v (.bl (!decide (i = j)))) A
  | .v (.str i), .v (.str j), A, Q => Q (.v (.bl (!decide (i = j)))) A
  | .v (.bl i), .v (.bl j), A, Q => Q (.v (.bl (!decide (i = j)))) A
  | .v .non, .v (.int _), A, Q => Q (.v (.bl true)) A
  | .v (.int _), .v .non, A, Q => Q (.v (.bl true)) A
  | .v .non, .v .non, A, Q => Q (.v (.bl false)) A
  | d, e, A, Q => ∃ b, EqD A d e b ∧ Q (.v (.bl (!b))) A
def rEqA (K : PySem.W.Frag) : R2 := fun x y H Q => rEq x y H Q ∨ rEqD K x y H Q
def rNeA (K : PySem.W.Frag) : R2 := fun x y H Q => rNe x y H Q ∨ rNeD K x y H Q
theorem op_eqA {X : Cx} (hu : X.A.units + 64 < cLine) : OpR X (compareOp .Eq) (rEqA X.K) := op_eq.or (op_eqD hu)
theorem op_neA {X : Cx} (hu : X.A.units + 64 < cLine) : OpR X (compareOp .NotEq) (rNeA X.K) := op_ne.or (op_neD hu)
theorem eqv_int (i j : Int) : PyData.eqv (.int i) (.int j) = decide (i = j) := by
  have : PyData.eqv (.int i) (.int j) = (i == j) := by simp only [PyData.eqv]
  rw [this, Bool.eq_iff_iff]
  simp
theorem shaped_int (i : Int) : SeqAt.shaped (.int i) = true := by
  unfold SeqAt.shaped
  simp only [PyData.canLay0, PyData.depth]
  rfl
theorem l_eq : LR K (rEqA K) hEq := by
  intro θ H A x y d e Q Qh rd re ra w k
  unfold hEq at w
  split at w
  · cases rd
    cases re
    refine .inl ⟨rfl, k.here ra (.v _) ?_⟩
    simpa using w
  · cases rd
    cases re
    refine .inl ⟨rfl, k.here ra (.v _) ?_⟩
    simpa using w
  · cases rd
    cases re
    refine .inl ⟨rfl, k.here ra (.v _) ?_⟩
    simpa using w
  · cases rd; cases re; exact .inl ⟨rfl, k.here ra (.v _) w⟩
  · cases rd; cases re; exact .inl ⟨rfl, k.here ra (.v _) w⟩
  · cases rd; cases re; exact .inl ⟨rfl, k.here ra (.v _) w⟩
  · obtain ⟨b, ⟨p, q, h1, h2, h3, h4, rfl⟩, w⟩ := w
    exact .inr ⟨p, q, h1.dp ra rd, h2.dp ra re, h3, h4, k.here ra (.v _) w⟩
theorem l_ne : LR K (rNeA K) hNe := by
  intro θ H A x y d e Q Qh rd re ra w k
  unfold hNe at w
  split at w
  · cases rd
    cases re
    refine .inl ⟨rfl, k.here ra (.v _) ?_⟩
    simpa using w
  · cases rd
    cases re
    refine .inl ⟨rfl, k.here ra (.v _) ?_⟩
    simpa using w
  · cases rd
    cases re
    refine .inl ⟨rfl, k.here ra (.v _) ?_⟩
    simpa using w
  · cases rd; cases re; exact .inl ⟨rfl, k.here ra (.v _) w⟩
  · cases rd; cases re; exact .inl ⟨rfl, k.here ra (.v _) w⟩
  · cases rd; cases re; exact .inl ⟨rfl, k.here ra (.v _) w⟩
  · obtain ⟨b, ⟨p, q, h1, h2, h3, h4, rfl⟩, w⟩ := w
    exact .inr ⟨p, q, h1.dp ra rd, h2.dp ra re, h3, h4, k.here ra (.v _) w⟩
/-- is None -/
def hIsN : R2h
  | .v x, .v .non, A, Q => Q (.v (.bl (decide (x = .non)))) A
  | .tup _, .v .non, A, Q => Q (.v (.bl false)) A
  | .ptr _, .v .non, A, Q => Q (.v (.bl false)) A
  | .scr _, .v .non, A, Q => Q (.v (.bl false)) A
  | _, _, _, _ => False
theorem l_isN : LR K (fun x y H Q => y = .non ∧ Q (.bl (decide (x = .non))) H) hIsN := by
  intro θ H A x y d e Q Qh rd re ra w k
  unfold hIsN at w
  split at w
  · cases rd; cases re; exact ⟨rfl, k.here ra (.v _) w⟩
  · cases re; cases rd; exact ⟨rfl, k.here ra (.v _) w⟩
  · cases re; cases rd; exact ⟨rfl, k.here ra (.v _) w⟩
  · cases re; cases rd; exact ⟨rfl, k.here ra (.v _) w⟩
  · exact w.elim
def hNotN : R2h
  | .v x, .v .non, A, Q => Q (.v (.bl (!decide (x = .non)))) A
  | .tup _, .v .non, A, Q => Q (.v (.bl true)) A
  | .ptr _, .v .non, A, Q => Q (.v (.bl true)) A
  | .scr _, .v .non, A, Q => Q (.v (.bl true)) A
  | _, _, _, _ => False
theorem l_notN : LR K (fun x y H Q => y = .non ∧ Q (.bl (!decide (x = .non))) H) hNotN := by
  intro θ H A x y d e Q Qh rd re ra w k
  unfold hNotN at w
  split at w
  · cases rd; cases re; exact ⟨rfl, k.here ra (.v _) w⟩
  · cases re; cases rd; exact ⟨rfl, k.here ra (.v _) w⟩
  · cases re; cases rd; exact ⟨rfl, k.here ra (.v _) w⟩
  · cases re; cases rd; exact ⟨rfl, k.here ra (.v _) w⟩
  · exact w.elim
def hRepr : List D → OH → KH → Prop
  | [d], A, Q => ∃ p, DP A d p ∧ Shw p ∧ Q (.v (.str p.shown)) A
  | _, _, _ => False
theorem l_repr : LC K (fun xs H Q => ∃ x d, xs = [x] ∧ Dp K H x d ∧ Shw d ∧ Q (.str d.shown) H) hRepr := by
  intro θ H A xs ds Q Qh r ra w k
  unfold hRepr at w
  split at w
  · obtain ⟨p, h1, h2, w⟩ := w
    obtain ⟨x, rfl, rx⟩ := r.one
    exact ⟨x, p, rfl, h1.dp ra rx, h2, k.here ra (.v _) w⟩
  · exact w.elim
/-! ### isinstance with one class -/
inductive TyD (K : PySem.W.Frag) (A : OH) : D → Value → Prop
  | non : TyD K A (.v .non) (.type "NoneType")
  | bl (b : Bool) : TyD K A (.v (.bl b)) (.type "bool")
  | int (i : Int) : TyD K A (.v (.int i)) (.type "int")
  | str (x : Str) : TyD K A (.v (.str x)) (.type "str")
  | lst {k : Nat} {ds : List D} (h : A[k]? = some (.lst ds)) : TyD K A (.ptr k) (.type "list")
  | dK {k : Nat} {kvs : List (Key × D)} (h : A[k]? = some (.dK kvs)) : TyD K A (.ptr k) (.type "dict")
  | ins {k : Nat} {C : Addr} {fs : List (Str × D)} (h : A[k]? = some (.ins C fs)) (cl : Cls K C) (ha : PySem.W.findIn K (.ref C) "__class__" = some (some (.builtin "object.__class__")))
      (hn : PySem.W.specialIn K (.builtin "object.__class__") "__get__" = some (some (.builtin "getset_descriptor.__get__"))) (htk : PySem.W.takesIn K (.builtin "object.__class__") = some true)
      (hm : PySem.W.mroIn K C (.type "object") = some true) : TyD K A (.ptr k) (.ref C)
  | tup (ds : List D) : TyD K A (.tup ds) (.type "tuple")
theorem TyD.ty {θ : List Addr} {H : Hp} {A : OH} (ra : RA K θ H A) {d : D} {v : V} {t : Value} (h : TyD K A d t) (r : RD K θ H v d) : TyX K H v t := by
  cases h with
  | non => cases r; exact .base .non
  | bl b => cases r; exact .base (.bl b)
  | int i => cases r; exact .base (.int i)
  | str x => cases r; exact .base (.str x)
  | lst h =>
    cases r with
    | ptr hi =>
      obtain ⟨xs, g, _⟩ := ra.ok _ _ _ hi h
      exact .base (.lst g)
  | dK h =>
    cases r with
    | ptr hi =>
      obtain ⟨xs, g, _⟩ := ra.ok _ _ _ hi h
      exact .base (.dK g)
  | ins h cl ha hn htk hm =>
    cases r with
    | ptr hi =>
      obtain ⟨dx, xs, g, _, _⟩ := ra.ok _ _ _ hi h
      exact .base (.ins g cl ha hn htk hm)
  | tup ds =>
    cases r with
    | tup hs _ =>
      rcases hs with (h | ⟨o, h⟩) | ⟨o, its, n, h1, h2, _⟩
      · exact .base (.tup h)
      · exact .fTuple h
      · exact .kTuple h1 h2
/-- c: a class, as a value -/
def hIsi (K : PySem.W.Frag) : List D → OH → KH → Prop
  | [d, .v c], A, Q => ∃ t u b, ClsV c u ∧ TyD K A d t ∧ PySem.W.kitOne K t u = some b ∧ Q (.v (.bl b)) A
  | _, _, _ => False
theorem l_isi : LC K (rIsi K) (hIsi K) := by
  intro θ H A xs ds Q Qh r ra w k
  unfold hIsi at w
  split at w
  · obtain ⟨t, u, b, h1, h2, h3, w⟩ := w
    obtain ⟨x, y, rfl, rx, ry⟩ := r.two
    cases ry
    exact ⟨_, _, t, u, b, rfl, h1, h2.ty ra rx, h3, k.here ra (.v _) w⟩
  · exact w.elim
end
/-! ### attributes, stores, list methods -/
section
variable {X : Cx} {e o a b value : Expr} {es : List Expr} {f : Str} {pos pos' apos : Pos} {C : Addr} {ta tv : TEh} {t : TAh}
def hFld (C : Addr) (ta : TEh) (f : Str) : TEh := fun σ A Q => ta σ A fun x A1 => match x with
  | .ptr k => ∃ fs d, A1[k]? = some (.ins C fs) ∧ fs.lookup f = some d ∧ Q d A1
  | _ => False
theorem ph_fld (c : Cls X.K C) (n : NoAttr X.K C f) (he : PE X e (lift X.K ta)) (hb : attributeBase e f X.env (eval e X.env) = eval e X.env) : PE X (.Attribute e f pos) (lift X.K (hFld C ta f)) :=
  (pe_fld he hb).imp fun σ H Q ⟨θ, σh, A, Qh, rs, ra, w, k⟩ => ⟨θ, σh, A, _, rs, ra, w, fun θ1 H1 A1 v d e1 ra1 r1 w1 => by
    split at w1
    · obtain ⟨fs, d, h1, h2, q⟩ := w1
      cases r1 with
      | ptr hi =>
        obtain ⟨dx, xs, g, _, rf⟩ := ra1.ok _ _ _ hi h1
        obtain ⟨v, l, r⟩ := rf.lookup h2
        exact ⟨_, C, dx, xs, v, rfl, g, c, n, l, (k.ext e1).here ra1 r q⟩
    · exact w1.elim⟩
theorem RF.put {K : PySem.W.Frag} {θ : List Addr} {H : Hp} {f : Str} {v : V} {d : D} (r : RD K θ H v d) : ∀ {xs : List (Str × V)} {fs : List (Str × D)}, RF K θ H xs fs → RF K θ H (putF f v xs) (putD f d fs)
  | _, _, .nil => .cons r .nil
  | _, _, .cons (n := n) (x := x) (d := e) (xs := xs) (ds := ds) h t => by
    show RF K θ H (if n = f then (n, v) :: xs else (n, x) :: putF f v xs) (if n = f then (n, d) :: ds else (n, e) :: putD f d ds)
    split
    · exact .cons r t
    · exact .cons h (RF.put r t)
def hSetF (C : Addr) (ta tv : TEh) (f : Str) : TSh := fun D σ A => tv σ A fun y A1 => ta σ A1 fun x A2 => match x with
  | .ptr k => ∃ fs, A2[k]? = some (.ins C fs) ∧ few (fs.length + 99100) (PutQ A2 k (.ins C (putD f y fs)) (D.nx σ))
  | _ => False
theorem psh_fld (c : Cls X.K C) (n : NoAttr X.K C f) (ha : PE X o (lift X.K ta)) (hv : PE X value (lift X.K tv)) (hs : swapsWith value (some (.Attribute o f pos')) pos.line X.env = pure false) : PS X (.Assign [.Attribute o f pos'] value pos) (liftS X.K (hSetF C ta tv f)) :=
  (ps_fld ha hv hs).imp fun De σ H ⟨θ, σh, A, Dh, rs, ra, w, k⟩ => ⟨θ, σh, A, _, rs, ra, w, fun θ1 H1 A1 y dy e1 ra1 r1 w1 => ⟨θ1, σh, A1, _, rs.ext e1, ra1, w1, fun θ2 H2 A2 x dx e2 ra2 r2 w2 => by
    split at w2
    · rename_i kk
      obtain ⟨fs, h1, w2⟩ := w2
      have w3 : fs.length < 1000 ∧ PutQ A2 kk (.ins C (putD f dy fs)) (Dh.nx σh) := by
        unfold few at w2
        split at w2
        · rename_i e
          have := Nat.le_of_ble_eq_true e
          exact ⟨by omega, w2⟩
        · exact w2.elim
      cases r2 with
      | @ptr _ a hi =>
        obtain ⟨dx, xs, g, hd, rf⟩ := ra2.ok _ _ _ hi h1
        have mu : Mu (H2 a) := by rw [g]; exact True.intro
        have e3 := Ext.put (u := .ins C dx (putF f y xs)) (List.mem_of_getElem? hi) mu
        have ne : dx ≠ a := ne_of hd g (by intro z; cases z)
        refine ⟨_, C, dx, xs, rfl, g, c, n, by rw [rf.length]; exact w3.1, k.nx _ _ _ _ _ ((e1.trans e2).trans e3) (((rs.ext e1).ext e2).ext e3) (ra2.put (o' := .ins C (putD f dy fs)) hi h1 mu ⟨dx, _, upd_same, by rw [upd_ne ne]; exact hd, RF.put ((r1.ext e2).ext e3) (rf.stab0 (stab_put mu))⟩) (w3.2 _ ⟨(List.getElem?_eq_some_iff.mp h1).1, rfl⟩)⟩
    · exact w2.elim⟩⟩
/-- o[i] = v, o a list -/
def hgSub (to ti : TEh) : TGh := fun d σ A Q => to σ A fun o A1 => ti σ A1 fun i A2 => match o, i with
  | .ptr k, .v (.int n) => ∃ es j, A2[k]? = some (.lst es) ∧ ixN es.length n = some j ∧ PutQ A2 k (.lst (es.set j d)) (Q σ)
  | _, _ => False
theorem lg_sub {K : PySem.W.Frag} {to ti : TEh} : LG K (gSub (lift K to) (lift K ti) rSetL) (hgSub to ti) := fun v σ H Q ⟨θ, d, σh, A, Qh, r, rs, ra, w, k⟩ =>
  ⟨θ, σh, A, _, rs, ra, w, fun θ1 H1 A1 o do_ e1 ra1 r1 w1 => ⟨θ1, σh, A1, _, rs.ext e1, ra1, w1, fun θ2 H2 A2 i di e2 ra2 r2 w2 => by
    split at w2
    · obtain ⟨es, j, h1, h2, w2⟩ := w2
      have r1' := r1.ext e2
      cases r2
      cases r1' with
      | ptr hi =>
        obtain ⟨xs, g, rx⟩ := ra2.ok _ _ _ hi h1
        have rd := (r.ext e1).ext e2
        obtain ⟨q1, q2, q3⟩ := ra2.putL hi h1 (RDs.set rd j rx)
        exact ⟨_, xs, _, j, rfl, rfl, g, by rw [rx.length]; exact h2, k _ _ _ _ _ ((e1.trans e2).trans q2) (((rs.ext e1).ext e2).ext q2) q1 (w2 _ q3)⟩
    · exact w2.elim⟩⟩
theorem pgh_sub {to ti : TEh} (ho : PE X a (lift X.K to)) (hi : PE X b (lift X.K ti)) (ha : ∀ v, assign (.Subscript a b pos) X.env v = (do
      let ov ← holding [v] (eval a X.env)
      let iv ← holding [v, ov] (eval b X.env)
      standAt pos
      holding [v, ov, iv] (setItem ov iv v)
      release [v, ov, iv] []) := by intro _; rfl) : PG X (.Subscript a b pos) (gSub (lift X.K to) (lift X.K ti) rSetL) := pg_sub ho hi set_list ha
/-- l.append(d) -/
def hApp (to : TEh) (t : TAh) : TEh := fun σ A Q => to σ A fun x A1 => match x with
  | .ptr k => (∃ es, A1[k]? = some (.lst es)) ∧ t σ A1 fun ds A2 => match ds with
    | [d] => ∃ es, A2[k]? = some (.lst es) ∧ es.length ≤ 100000 ∧ PutQ A2 k (.lst (es ++ [d])) (Q (.v .non))
    | _ => False
  | _ => False
theorem ph_app (ho : PE X o (lift X.K ta)) (ha : PA X (e :: es) (liftA X.K t))
    (hbase : attributeBase o "append" X.env (eval o X.env) = eval o X.env := by rfl)
    (hfew : ((backTo pos (starEach (e :: es) X.env)).all (fun x => !x.1) && (backToKw pos (keywordEach [] X.env)).all (fun x => x.1.isSome)
      && decide ((e :: es).length + ([] : List Keyword).length + (if ([] : List Keyword).isEmpty then 0 else 1) < 30)) = true := by rfl)
    (hline : (apos.endLine == pos.line) = true := by rfl) (hs : starEach (e :: es) X.env = (false, eval e X.env) :: starEach es X.env := by rfl) (hplain : (backTo pos (starEach es X.env)).any (·.1) = false := by rfl) :
    PE X (.Call (.Attribute o "append" apos) (e :: es) [] pos) (lift X.K (hApp ta t)) :=
  (pe_bm PySem.F.plainAttrs_list PySem.F.slot_list_append PySem.F.type_list_append mt_append ho ha hbase hfew hline hs hplain).imp fun σ H Q ⟨θ, σh, A, Qh, rs, ra, w, k⟩ => ⟨θ, σh, A, _, rs, ra, w, fun θ1 H1 A1 v d e1 ra1 r1 w1 => by
    split at w1
    · obtain ⟨⟨es, h0⟩, w1⟩ := w1
      cases r1 with
      | ptr hi =>
        obtain ⟨xs, g, _⟩ := ra1.ok _ _ _ hi h0
        refine ⟨.inl ⟨rfl, xs, SqL.of g⟩, θ1, σh, A1, _, rs.ext e1, ra1, w1, fun θ2 H2 A2 vs ds e2 ra2 r2 w2 => ?_⟩
        split at w2
        · obtain ⟨es, h2, hz, w2⟩ := w2
          obtain ⟨y, rfl, ry⟩ := r2.one
          have hi' : RD X.K θ2 H2 (.ref _) (.ptr _) := (RD.ptr hi).ext e2
          cases hi' with
          | ptr hi' =>
            obtain ⟨ys, g2, rx⟩ := ra2.ok _ _ _ hi' h2
            obtain ⟨q1, q2, q3⟩ := ra2.putL hi' h2 (rx.append (.cons ry .nil))
            have ez : sizeLine = 16777216 := sizeLine_eq
            exact ⟨_, ys, y, rfl, rfl, g2, by rw [rx.length]; omega, k _ _ _ _ _ ((e1.trans e2).trans q2) q1 (.v _) (w2 _ q3)⟩
        · exact w2.elim
    · exact w1.elim⟩
/-- l.pop() -/
def hPop (to : TEh) : TEh := fun σ A Q => to σ A fun x A1 => match x with
  | .ptr k => ∃ es d, A1[k]? = some (.lst (es ++ [d])) ∧ PutQ A1 k (.lst es) (Q d)
  | _ => False
theorem ph_pop (ho : PE X o (lift X.K ta)) (hbase : attributeBase o "pop" X.env (eval o X.env) = eval o X.env := by rfl) (hline : (apos.endLine == pos.line) = true := by rfl) :
    PE X (.Call (.Attribute o "pop" apos) [] [] pos) (lift X.K (hPop ta)) :=
  (pe_bm0 PySem.F.plainAttrs_list PySem.F.slot_list_pop PySem.F.type_list_pop mt_pop ho hbase hline).imp fun σ H Q ⟨θ, σh, A, Qh, rs, ra, w, k⟩ => ⟨θ, σh, A, _, rs, ra, w, fun θ1 H1 A1 v d e1 ra1 r1 w1 => by
    split at w1
    · obtain ⟨es, d, h0, w1⟩ := w1
      cases r1 with
      | ptr hi =>
        obtain ⟨xs, g, rx⟩ := ra1.ok _ _ _ hi h0
        have hl : xs.length = es.length + 1 := by rw [rx.length, List.length_append]; rfl
        obtain ⟨y, hy, ry⟩ := rx.get (i := es.length) (d := d) (by simp)
        have rd : RDs X.K θ1 H1 xs.dropLast es := by
          have := rx.dropLast
          rw [List.dropLast_concat] at this
          exact this
        obtain ⟨q1, q2, q3⟩ := ra1.putL hi h0 rd
        exact ⟨.inl ⟨rfl, xs, SqL.of g⟩, _, xs, y, rfl, rfl, g, by rw [hl]; exact hy, k _ _ _ _ _ (e1.trans q2) q1 (ry.ext q2) (w1 _ q3)⟩
    · exact w1.elim⟩
end
end Rp

/-! More of the second layer: comparisons by name, targets within targets, slices with a step, zip. -/
namespace Rp
open PySem PySem.Spec PyProof.Rows L2
section
variable {K : PySem.W.Frag}
theorem l_lt : LR K (rI0 fun i j => .bl (decide (i < j))) (hI fun i j => decide (i < j)) := l_cmpI
theorem l_le : LR K (rI0 fun i j => .bl (decide (i ≤ j))) (hI fun i j => decide (i ≤ j)) := l_cmpI
theorem l_gt : LR K (rI0 fun i j => .bl (decide (j < i))) (hI fun i j => decide (j < i)) := l_cmpI
theorem l_ge : LR K (rI0 fun i j => .bl (decide (j ≤ i))) (hI fun i j => decide (j ≤ i)) := l_cmpI
/-! ### targets within targets -/
def Goes (g : TGh) : Prop := ∀ d σ A Q, g d σ A Q → ∃ σ' A', Q σ' A'
def Goess (g : TGsh) : Prop := ∀ d σ A Q, g d σ A Q → ∃ σ' A', Q σ' A'
theorem goes_name {i : Nat} : Goes (hgName i) := fun d σ A Q w => ⟨_, _, w⟩
theorem goes_nil : Goess hgNil := fun d σ A Q w => by
  unfold hgNil at w
  split at w
  · exact ⟨_, _, w⟩
  · exact w.elim
theorem goes_cons {g : TGh} {gs : TGsh} (h : Goes g) (h' : Goess gs) : Goess (hgCons g gs) := fun d σ A Q w => by
  unfold hgCons at w
  split at w
  · obtain ⟨_, _, w⟩ := h _ _ _ _ w
    exact h' _ _ _ _ w
  · exact w.elim
theorem goes_tup {gs : TGsh} (h : Goess gs) : Goes (hgTup gs) := fun d σ A Q w => by
  unfold hgTup at w
  split at w
  · exact h _ _ _ _ w
  · exact w.elim
theorem len_cons {g : TGh} {gs : TGsh} {n : Nat} (h : Goes g) (h' : LenG gs n) : LenG (hgCons g gs) (n + 1) := fun ds σ A Q w => by
  unfold hgCons at w
  split at w
  · obtain ⟨_, _, w⟩ := h _ _ _ _ w
    rw [List.length_cons, h' _ _ _ _ w]
  · exact w.elim
theorem mono_nil : ∀ v σ H Q Q', (∀ σ H, Q σ H → Q' σ H) → gNil v σ H Q → gNil v σ H Q' := fun _ _ _ _ _ h w => ⟨w.1, h _ _ w.2⟩
theorem mono_cons {g : TG} {gs : TGs} (h : ∀ v σ H Q Q', (∀ σ H, Q σ H → Q' σ H) → g v σ H Q → g v σ H Q') (h' : ∀ v σ H Q Q', (∀ σ H, Q σ H → Q' σ H) → gs v σ H Q → gs v σ H Q') :
    ∀ v σ H Q Q', (∀ σ H, Q σ H → Q' σ H) → gCons g gs v σ H Q → gCons g gs v σ H Q' := fun _ _ _ _ _ m ⟨x, r, e, w⟩ => ⟨x, r, e, h _ _ _ _ _ (fun _ _ q => h' _ _ _ _ _ m q) w⟩
theorem mono_tup {n : Nat} {gs : TGs} (h' : ∀ v σ H Q Q', (∀ σ H, Q σ H → Q' σ H) → gs v σ H Q → gs v σ H Q') : ∀ v σ H Q Q', (∀ σ H, Q σ H → Q' σ H) → gTup K n gs v σ H Q → gTup K n gs v σ H Q' :=
  fun _ _ _ _ _ m ⟨a, xs, e, hs, hl, w⟩ => ⟨a, xs, e, hs, hl, h' _ _ _ _ _ m w⟩
end
/-! ### xs[::k] of a list -/
def pickG {α : Type} (xs : List α) (st : Int) : List α :=
  (sliceRange (sliceBounds none none (some st) xs.length).1 (sliceBounds none none (some st) xs.length).2.1 (sliceBounds none none (some st) xs.length).2.2).filterMap (xs[·]?)
theorem pickG_mem {α : Type} {xs : List α} {st : Int} {x : α} (h : x ∈ pickG xs st) : x ∈ xs := by
  unfold pickG at h
  obtain ⟨i, _, e⟩ := List.mem_filterMap.mp h
  exact List.mem_of_getElem? e
theorem pick_eq (its : List Value) (st : Int) : slicePick its.toArray none none (some st) = (pickG its st).toArray := by
  unfold slicePick pickG
  simp only [List.size_toArray]
  congr 1
  congr 1
  funext i
  simp
theorem pickG_len {α : Type} (xs : List α) (st : Int) : (pickG xs st).length ≤ xs.length := by
  have e : ∀ (ys : List Value), (pickG ys st).length ≤ ys.length := fun ys => by
    have := slicePick_size_le ys.toArray none none (some st)
    rw [pick_eq] at this
    simpa using this
  have m : ∀ (ixs : List Nat) {β : Type} (ys : List β), ys.length = xs.length → (ixs.filterMap (ys[·]?)).length = (ixs.filterMap (xs[·]?)).length := fun ixs => by
    intro β ys hl
    induction ixs with
    | nil => rfl
    | cons i ixs ih =>
      rw [List.filterMap_cons, List.filterMap_cons]
      by_cases c : i < xs.length
      · rw [List.getElem?_eq_getElem c, List.getElem?_eq_getElem (by rw [hl]; exact c)]
        simp [ih]
      · rw [List.getElem?_eq_none (show ys.length ≤ i by omega), List.getElem?_eq_none (show xs.length ≤ i by omega)]
        exact ih
  have q := e (List.replicate xs.length Value.none)
  unfold pickG at q ⊢
  rw [List.length_replicate] at q
  rw [m _ (List.replicate xs.length Value.none) (by simp)] at q
  exact q
theorem fm_vals {xs : List V} {us : List Value} (r : Vals xs us) : ∀ ixs : List Nat, Vals (ixs.filterMap (xs[·]?)) (ixs.filterMap (us[·]?))
  | [] => .nil
  | i :: ixs => by
    have ih := fm_vals r ixs
    rw [List.filterMap_cons, List.filterMap_cons]
    cases e : xs[i]? with
    | none => rw [r.none_of e]; exact ih
    | some x =>
      obtain ⟨u, hu, ru⟩ := r.get e
      rw [hu]
      exact .cons ru ih
theorem Vals.pick {xs : List V} {us : List Value} (r : Vals xs us) (st : Int) : Vals (pickG xs st) (pickG us st) := by
  unfold pickG
  rw [r.length]
  exact fm_vals r _
theorem fm_rds {K : PySem.W.Frag} {θ : List Addr} {H : Hp} {xs : List V} {ds : List D} (r : RDs K θ H xs ds) : ∀ ixs : List Nat, RDs K θ H (ixs.filterMap (xs[·]?)) (ixs.filterMap (ds[·]?))
  | [] => .nil
  | i :: ixs => by
    have ih := fm_rds r ixs
    rw [List.filterMap_cons, List.filterMap_cons]
    by_cases c : i < xs.length
    · obtain ⟨d, hd, rd⟩ := r.get' (List.getElem?_eq_getElem c)
      rw [List.getElem?_eq_getElem c, hd]
      exact .cons rd ih
    · rw [List.getElem?_eq_none (by omega), List.getElem?_eq_none (by rw [← r.length]; omega)]
      exact ih
theorem RDs.pick {K : PySem.W.Frag} {θ : List Addr} {H : Hp} {xs : List V} {ds : List D} (r : RDs K θ H xs ds) (st : Int) : RDs K θ H (pickG xs st) (pickG ds st) := by
  unfold pickG
  rw [r.length]
  exact fm_rds r _
theorem pickG_map {α β : Type} (f : α → β) (xs : List α) (st : Int) : pickG (xs.map f) st = (pickG xs st).map f := by
  unfold pickG
  rw [List.length_map, List.map_filterMap]
  congr 1
  funext i
  rw [List.getElem?_map]
section
variable {X : Cx} {e st : Expr} {pos p3 : Pos}
def tStepL (K : PySem.W.Frag) (te : TE) (ts : TO) : TE := fun σ H Q => te σ H fun x H1 => ts σ H1 fun o H2 => ∃ a xs k, x = .ref a ∧ o = some k ∧ k ≠ 0 ∧ SqL K H2 a xs ∧ ∀ p, H2 p = none → Q (.ref p) (upd H2 p (.lst (pickG xs k)))
theorem pe_stepL {te : TE} {ts : TO} (he : PE X e te) (hst : PO X (some st) ts) (htr : ∀ o r, subscriptTail e (.Slice none none (some st) p3) o r = subscriptTail e (.Slice none none (some st) p3) o r := by intros; rfl)
    (hop : ∀ o s', (subscripted (.Slice none none (some st) p3) false o s') = operate [o, s'] (getItem o s') := by intros; rfl) : PE X (.Subscript e (.Slice none none (some st) p3) pos) (tStepL X.K te ts) := by
  refine ⟨fun pins s σ H Q I h => ?_⟩
  refine Subscript_ (thn (he.run pins s σ H _ I h) fun v s1 ⟨x, H1, I1, r1, q1⟩ => ?_)
  refine wpAny_Slice (thn (po_none.run pins s1 σ H1 (fun o H2 => o = none ∧ H2 = H1) I1 ⟨rfl, rfl⟩) fun vl s2 ⟨l, H2, I2, pl, el, e2⟩ => ?_)
  subst el e2
  refine thn (po_none.run pins s2 σ H2 (fun o H3 => o = none ∧ H3 = H2) I2 ⟨rfl, rfl⟩) fun vu s3 ⟨u, H3, I3, pu, eu, e3⟩ => ?_
  subst eu e3
  refine thn (hst.run pins s3 σ H3 _ I3 q1) fun vs s4 ⟨o, H4, I4, ps, a, xs, k, ex, eo, hk, hx, q⟩ => ?_
  subst ex eo
  cases r1
  have I5 : Inv X pins σ H4 { s4 with heap := s4.heap.push { cls := .type "slice", data := .fields #[vl, vu, vs] } } := I4.kept (t' := s4.toks) fun b ob q => Heap.get?_push_of_some _ q
  obtain ⟨its, r, ht, hz⟩ := I5.list hx
  have hlen := r.length
  show wpAny (model X.prog X.w) X.A (subscriptTail e (.Slice none none (some st) p3) (.ref a) (.ref s4.heap.objs.size)) (EP X pins σ Q) X.xe { s4 with heap := s4.heap.push { cls := .type "slice", data := .fields #[vl, vu, vs] } }
  refine tail_any (ops := [.ref a, .ref s4.heap.objs.size]) ht.isList.typeIs (PySem.slot_list_getitem.lookup) ?_ (by with_unfolding_all rfl)
  refine wpAny_getItem_list_slice ht.isList (Heap.IsSliceOf.new _ vl vu vs) pl pu ps (fun z => hk (Option.some.inj z)) ?_ (by rw [List.size_toArray]; omega)
  rw [pick_eq]
  refine ⟨.ref _, _, I5.laid (t' := s4.toks) (o := .lst (pickG xs k)) (fun b ob q => Heap.get?_push_of_some _ q) (Nat.le_refl _) ?_, rfl, q _ (I5.hok.fresh (Nat.le_refl _))⟩
  exact ⟨Nat.le_trans (pickG_len xs k) hz, _, 0, Vals.pick r k, Heap.get?_push_size _ rfl⟩
def hStep (te : TEh) (ts : TOh) : TEh := fun σ A Q => te σ A fun d A1 => ts σ A1 fun o A2 => match o with
  | none => False
  | some k => match decide (k = 0) with
    | true => False
    | false => match d with
      | .ptr i => ∃ ds, A2[i]? = some (.lst ds) ∧ NewQ A2 (.lst (pickG ds k)) Q
      | .scr ns => NewQ A2 (.lst ((pickG ns k).map fun n => .v (.int n))) Q
      | _ => False
theorem ph_step {te : TEh} {ts : TOh} (he : PE X e (lift X.K te)) (hst : PO X (some st) (liftO X.K ts)) : PE X (.Subscript e (.Slice none none (some st) p3) pos) (lift X.K (hStep te ts)) :=
  (pe_stepL he hst).imp fun σ H Q ⟨θ, σh, A, Qh, rs, ra, w, k⟩ => ⟨θ, σh, A, _, rs, ra, w, fun θ1 H1 A1 v d e1 ra1 r1 w1 => ⟨θ1, σh, A1, _, rs.ext e1, ra1, w1, fun θ2 H2 A2 o e2 ra2 w2 => by
    split at w2
    · exact w2.elim
    · rename_i k'
      split at w2
      · exact w2.elim
      · rename_i hk
        have hk := of_decide_eq_false hk
        have r2 := r1.ext e2
        have k2 := (k.ext e1).ext e2
        split at w2
        · obtain ⟨ds, h0, q⟩ := w2
          cases r2 with
          | ptr hi =>
            obtain ⟨xs, g, rx⟩ := ra2.ok _ _ _ hi h0
            exact ⟨_, xs, k', rfl, rfl, hk, SqL.of g, fun p hp => k2.lst ra2 (rx.pick k') q hp⟩
        · cases r2 with
          | scr hs =>
            refine ⟨_, _, k', rfl, rfl, hk, hs.l, fun p hp => k2.lst ra2 ?_ w2 hp⟩
            rw [pickG_map]
            exact RDs.scal V.int _
        · exact w2.elim⟩⟩
end
end Rp

/-! What stays: the objects outside M are kept; a def's own objects by place. -/
namespace Rp
open PySem PySem.Spec PyProof.Rows L2
def Kp (M : List Nat) (A A' : OH) : Prop := ∀ (i : Nat) (o : O), i ∉ M → A[i]? = some o → A'[i]? = some o
theorem Kp.refl (M : List Nat) (A : OH) : Kp M A A := fun _ _ _ h => h
theorem Kp.trans {M : List Nat} {A B C : OH} (a : Kp M A B) (b : Kp M B C) : Kp M A C := fun i o n h => b i o n (a i o n h)
theorem Kp.mono {M N : List Nat} {A B : OH} (a : Kp M A B) (h : ∀ i ∈ M, i ∈ N) : Kp N A B := fun i o n q => a i o (fun z => n (h i z)) q
theorem Kp.new {M : List Nat} {A A1 A2 : OH} {k : Nat} {o : O} (a : Kp M A A1) (n : New A1 k o A2) : Kp M A A2 := fun i u nm h => n.old (a i u nm h)
theorem Kp.of_new {M : List Nat} {A A2 : OH} {k : Nat} {o : O} (n : New A k o A2) : Kp M A A2 := fun i u nm h => n.old h
structure Loc (M : List Nat) (A0 : OH) (ls : List (Nat × O)) (A : OH) : Prop where
  kp : Kp M A0 A
  here : ∀ p ∈ ls, A[p.1]? = some p.2
  ne : ∀ p ∈ ls, p.1 ∉ M ∧ A0[p.1]? = none
  nd : (ls.map Prod.fst).Nodup
section
variable {M : List Nat} {A0 A A' : OH} {ls : List (Nat × O)} {k : Nat} {o o' : O}
theorem Loc.nil : Loc M A [] A := ⟨.refl _ _, (fun _ h => nomatch h), (fun _ h => nomatch h), List.nodup_nil⟩
theorem Loc.get (l : Loc M A0 ls A) {i : Nat} (h : ls[i]? = some (k, o)) : A[k]? = some o := l.here (k, o) (List.mem_of_getElem? h)
theorem Loc.get0 {r : List (Nat × O)} (l : Loc M A0 ((k, o) :: r) A) : A[k]? = some o := l.get (i := 0) rfl
theorem Loc.get1 {p : Nat × O} {r : List (Nat × O)} (l : Loc M A0 (p :: (k, o) :: r) A) : A[k]? = some o := l.get (i := 1) rfl
theorem Loc.get2 {p q : Nat × O} {r : List (Nat × O)} (l : Loc M A0 (p :: q :: (k, o) :: r) A) : A[k]? = some o := l.get (i := 2) rfl
theorem Loc.out (l : Loc M A0 ls A) {i : Nat} (h : ls[i]? = some (k, o)) : k ∉ M := (l.ne (k, o) (List.mem_of_getElem? h)).1
/-- a new object that one forgets -/
theorem Loc.new0 (l : Loc M A0 ls A) (n : New A k o A') : Loc M A0 ls A' := ⟨l.kp.new n, fun p hp => n.old (l.here p hp), l.ne, l.nd⟩
/-- .. that is one's own; m: the objects of M stand -/
theorem Loc.new (l : Loc M A0 ls A) (n : New A k o A') (m : ∀ i ∈ M, i < A.length) : Loc M A0 ((k, o) :: ls) A' := by
  have hk : k ∉ M := fun z => by have := m k z; have := n.eq; omega
  refine ⟨l.kp.new n, fun p hp => ?_, fun p hp => ?_, ?_⟩
  · rcases List.mem_cons.mp hp with rfl | hp
    · exact n.get
    · exact n.old (l.here p hp)
  · rcases List.mem_cons.mp hp with rfl | hp
    · refine ⟨hk, ?_⟩
      cases e : A0[k]? with
      | none => rfl
      | some u =>
        have := (List.getElem?_eq_some_iff.mp (l.kp k u hk e)).1
        have := n.eq
        omega
    · exact l.ne p hp
  · rw [List.map_cons, List.nodup_cons]
    refine ⟨fun z => ?_, l.nd⟩
    obtain ⟨p, hp, e⟩ := List.mem_map.mp z
    have := (List.getElem?_eq_some_iff.mp (l.here p hp)).1
    have := n.eq
    omega
theorem Loc.put (l : Loc M A0 ls A) {i : Nat} (h : ls[i]? = some (k, o)) (p : Put A k o' A') : Loc M A0 (ls.set i (k, o')) A' := by
  have hm := List.mem_of_getElem? h
  have hk := l.ne _ hm
  have hi := (List.getElem?_eq_some_iff.mp h).1
  refine ⟨fun j u nm q => p.old (fun z => by subst z; rw [hk.2] at q; cases q) (l.kp j u nm q), fun q hq => ?_, fun q hq => ?_, ?_⟩
  · obtain ⟨j, hj, e⟩ := List.mem_iff_getElem.mp hq
    rw [List.length_set] at hj
    by_cases c : i = j
    · subst c
      rw [List.getElem_set_self] at e
      rw [← e]
      exact p.get
    · rw [List.getElem_set_ne c] at e
      have hq' : ls[j]? = some q := by rw [List.getElem?_eq_getElem hj, e]
      refine p.old (fun z => c ?_) (l.here q (List.mem_of_getElem? hq'))
      have h1 : (ls.map Prod.fst)[i]? = some k := by rw [List.getElem?_map, h]; rfl
      have h2 : (ls.map Prod.fst)[j]? = some k := by rw [List.getElem?_map, hq', ← z]; rfl
      obtain ⟨a1, b1⟩ := List.getElem?_eq_some_iff.mp h1
      obtain ⟨a2, b2⟩ := List.getElem?_eq_some_iff.mp h2
      exact (List.getElem_inj l.nd).mp (b1.trans b2.symm)
  · rcases List.mem_or_eq_of_mem_set hq with q' | q'
    · exact l.ne q q'
    · rw [q']; exact hk
  · have e : (ls.set i (k, o')).map Prod.fst = ls.map Prod.fst := by
      rw [List.map_set]
      show (ls.map Prod.fst).set i k = _
      have h1 : (ls.map Prod.fst)[i]? = some k := by rw [List.getElem?_map, h]; rfl
      obtain ⟨a1, b1⟩ := List.getElem?_eq_some_iff.mp h1
      rw [← b1, List.set_getElem_self]
    rw [e]
    exact l.nd
theorem Loc.put0 {r : List (Nat × O)} (l : Loc M A0 ((k, o) :: r) A) (p : Put A k o' A') : Loc M A0 ((k, o') :: r) A' := l.put (i := 0) rfl p
theorem Loc.put1 {q : Nat × O} {r : List (Nat × O)} (l : Loc M A0 (q :: (k, o) :: r) A) (p : Put A k o' A') : Loc M A0 (q :: (k, o') :: r) A' := l.put (i := 1) rfl p
theorem Loc.kept (l : Loc M A0 ls A) {N : List Nat} (k : Kp N A A') (h : ∀ i ∈ N, i ∈ M) : Loc M A0 ls A' := ⟨l.kp.trans (k.mono h), fun p hp => k _ _ (fun z => (l.ne p hp).1 (h _ z)) (l.here p hp), l.ne, l.nd⟩
theorem Loc.drop {p : Nat × O} (l : Loc M A0 (p :: ls) A) : Loc M A0 ls A := ⟨l.kp, fun q hq => l.here q (List.mem_cons_of_mem _ hq), fun q hq => l.ne q (List.mem_cons_of_mem _ hq), (List.nodup_cons.mp l.nd).2⟩
end
theorem lt_of_at {A : OH} {k : Nat} {o : O} (h : A[k]? = some o) : k < A.length := (List.getElem?_eq_some_iff.mp h).1
theorem dI_len (ns : List Int) : (dI ns).length = ns.length := List.length_map _
theorem dI_app (ns ms : List Int) : dI (ns ++ ms) = dI ns ++ dI ms := List.map_append
theorem dI_at {ns : List Int} {i : Nat} {d : D} (h : (dI ns)[i]? = some d) : ∃ n, ns[i]? = some n ∧ d = .v (.int n) := by
  rw [List.getElem?_map] at h
  cases e : ns[i]? with
  | none => rw [e] at h; cases h
  | some n => rw [e] at h; exact ⟨n, rfl, (Option.some.inj h).symm⟩
theorem mem_dI {ns : List Int} {d : D} (h : d ∈ dI ns) : ∃ n ∈ ns, d = .v (.int n) := by
  obtain ⟨n, hn, e⟩ := List.mem_map.mp h
  exact ⟨n, hn, e.symm⟩
theorem pickG_dI (ns : List Int) (st : Int) : pickG (dI ns) st = dI (pickG ns st) := pickG_map _ _ _
theorem cutD_dI (ns : List Int) (lo hi : Option Int) : cutD (dI ns) lo hi = dI (cutI ns lo hi) := by
  unfold cutD cutI dI
  rw [List.length_map, List.map_take, List.map_drop]
theorem cutI_len (ns : List Int) (lo hi : Option Int) : (cutI ns lo hi).length ≤ ns.length := by
  unfold cutI
  rw [List.length_take, List.length_drop]
  omega
/-! ### typed data: == decides equality -/
structure Enc {α : Type} [DecidableEq α] (A : OH) (f : α → D) (g : α → PyData) (n : Nat) : Prop where
  dp : ∀ a, DP A (f a) (g a)
  lay : ∀ a, (g a).canLay0 = true
  dep : ∀ a, (g a).depth ≤ n
  eqv : ∀ a b, PyData.eqv (g a) (g b) = decide (a = b)
section
variable {α β : Type} [DecidableEq α] [DecidableEq β] {A : OH} {f : α → D} {g : α → PyData} {f' : β → D} {g' : β → PyData} {n m : Nat}
theorem Enc.int : Enc A (fun i : Int => .v (.int i)) (fun i => .int i) 0 :=
  ⟨fun i => .int i, fun i => by simp only [PyData.canLay0], fun i => by simp only [PyData.depth]; exact Nat.le_refl _, eqv_int⟩
theorem Enc.nat : Enc A (fun i : Nat => .v (.int i)) (fun i => .int i) 0 :=
  ⟨fun i => .int i, fun i => by simp only [PyData.canLay0], fun i => by simp only [PyData.depth]; exact Nat.le_refl _, fun a b => by rw [eqv_int]; exact decide_eq_decide.mpr Int.ofNat_inj⟩
theorem Enc.bool : Enc A (fun i : Bool => .v (.bl i)) (fun i => .bool i) 0 :=
  ⟨fun i => .bl i, fun i => by simp only [PyData.canLay0], fun i => by simp only [PyData.depth]; exact Nat.le_refl _, fun a b => by
    rw [show PyData.eqv (.bool a) (.bool b) = (a == b) by cases a <;> cases b <;> rfl, Bool.eq_iff_iff]
    simp⟩
theorem Enc.all (E : Enc A f g n) : (∀ as : List α, DPs A (as.map f) (as.map g)) ∧ (∀ as : List α, PyData.canLayAll0 (as.map g) = true) ∧ (∀ as : List α, PyData.depthAll (as.map g) ≤ n) ∧ ∀ as bs : List α, PyData.eqvAll (as.map g) (bs.map g) = decide (as = bs) := by
  refine ⟨fun as => ?_, fun as => ?_, fun as => ?_, fun as => ?_⟩
  · induction as with
    | nil => exact .nil
    | cons a as ih => exact .cons (E.dp a) ih
  · induction as with
    | nil => rfl
    | cons a as ih =>
      show PyData.canLayAll0 (g a :: as.map g) = true
      simp only [PyData.canLayAll0, E.lay a, ih, Bool.and_self]
  · induction as with
    | nil => show PyData.depthAll [] ≤ n; simp only [PyData.depthAll]; exact Nat.zero_le _
    | cons a as ih =>
      show PyData.depthAll (g a :: as.map g) ≤ n
      have := E.dep a
      simp only [PyData.depthAll]
      omega
  · induction as with
    | nil =>
      intro bs
      cases bs with
      | nil => rfl
      | cons b bs => rfl
    | cons a as ih =>
      intro bs
      cases bs with
      | nil => rfl
      | cons b bs =>
        show (PyData.eqv (g a) (g b) && PyData.eqvAll (as.map g) (bs.map g)) = _
        rw [ih, E.eqv, Bool.eq_iff_iff]
        simp
theorem Enc.tup (E : Enc A f g n) : Enc A (fun as : List α => .tup (as.map f)) (fun as => .tuple (as.map g)) (n + 1) := by
  obtain ⟨h1, h2, h3, h4⟩ := E.all
  exact ⟨fun as => .tup (h1 as), fun as => by simp only [PyData.canLay0]; exact h2 as, fun as => by have := h3 as; simp only [PyData.depth]; omega, fun a b => by simp only [PyData.eqv]; exact h4 a b⟩
theorem Enc.pair (E : Enc A f g n) (E' : Enc A f' g' m) : Enc A (fun p : α × β => .tup [f p.1, f' p.2]) (fun p => .tuple [g p.1, g' p.2]) (max n m + 1) :=
  ⟨fun p => .tup (.cons (E.dp _) (.cons (E'.dp _) .nil)), fun p => by simp only [PyData.canLay0, PyData.canLayAll0, E.lay, E'.lay, Bool.and_self],
    fun p => by have := E.dep p.1; have := E'.dep p.2; simp only [PyData.depth, PyData.depthAll]; omega,
    fun p q => by
      obtain ⟨a, b⟩ := p
      obtain ⟨c, e⟩ := q
      simp only [PyData.eqv, PyData.eqvAll]
      rw [E.eqv, E'.eqv, Bool.eq_iff_iff]
      simp⟩
theorem Enc.sh (E : Enc A f g n) (hn : n ≤ 64) (a : α) : SeqAt.shaped (g a) = true := by
  unfold SeqAt.shaped
  rw [E.lay, Bool.true_and, decide_eq_true_eq]
  exact Nat.le_trans (E.dep a) hn
theorem Enc.eqd (E : Enc A f g n) (hn : n ≤ 64) (a b : α) : EqD A (f a) (f b) (decide (a = b)) := ⟨_, _, E.dp a, E.dp b, E.sh hn a, E.sh hn b, E.eqv a b⟩
theorem Enc.lst (E : Enc A f g n) (hn : n ≤ 63) {i j : Nat} {as bs : List α} (h : A[i]? = some (.lst (as.map f))) (h' : A[j]? = some (.lst (bs.map f))) : EqD A (.ptr i) (.ptr j) (decide (as = bs)) := by
  obtain ⟨h1, h2, h3, h4⟩ := E.all
  have sh : ∀ as : List α, SeqAt.shaped (.list (as.map g)) = true := fun as => by
    have := h3 as
    unfold SeqAt.shaped
    rw [Bool.and_eq_true, decide_eq_true_eq]
    refine ⟨by simp only [PyData.canLay0]; exact h2 as, ?_⟩
    simp only [PyData.depth]
    omega
  exact ⟨_, _, .lst h (h1 as), .lst h' (h1 bs), sh as, sh bs, by simp only [PyData.eqv]; exact h4 as bs⟩
end
theorem EqD.ints {A : OH} {i j : Nat} {ns ms : List Int} (h : A[i]? = some (.lst (dI ns))) (h' : A[j]? = some (.lst (dI ms))) : EqD A (.ptr i) (.ptr j) (decide (ns = ms)) := Enc.int.lst (by decide) h h'
theorem cutD_last (xs : List D) (x : D) : cutD (xs ++ [x]) none (some (-1)) = xs := by
  unfold cutD HT.sIx
  have e : ((xs ++ [x]).length : Nat) = xs.length + 1 := by simp
  rw [e]
  simp only [show ((-1 : Int) < 0) by decide, if_true, List.drop_zero, Nat.sub_zero]
  rw [show ((-1 : Int) + ((xs.length + 1 : Nat) : Int)).toNat = xs.length by omega]
  simp
theorem cutD_nat (xs : List D) (i j : Nat) (hi : i ≤ j) (hj : j ≤ xs.length) : cutD xs (some (i : Int)) (some (j : Int)) = (xs.drop i).take (j - i) := by
  unfold cutD
  rw [HT.sIx_nat, HT.sIx_nat, Nat.min_eq_left hj, Nat.min_eq_left (show i ≤ xs.length by omega)]
theorem cutD_from (xs : List D) (i : Nat) (hi : i ≤ xs.length) : cutD xs (some (i : Int)) none = xs.drop i := by
  unfold cutD
  rw [HT.sIx_nat, Nat.min_eq_left hi]
  show ((xs.drop i).take (xs.length - i)) = _
  rw [List.take_of_length_le (by rw [List.length_drop]; omega)]
theorem cutD_to (xs : List D) (j : Nat) (hj : j ≤ xs.length) : cutD xs none (some (j : Int)) = xs.take j := by
  unfold cutD
  rw [HT.sIx_nat, Nat.min_eq_left hj]
  rfl
/-- 1, -1: the test of a truth that is known -/
theorem Br.of {b : Bool} {p q : Prop} (h : b = true → p) (h' : b = false → q) : Br b p q := ⟨h, h'⟩
end Rp

/-! Calls of defs with keyword-only parameters, over data. -/
namespace Rp
open PySem PySem.Spec PyProof.Rows L2
theorem RDs.scalV {K : PySem.W.Frag} {θ : List Addr} {H : Hp} : ∀ xs : List V, RDs K θ H xs (xs.map D.v)
  | [] => .nil
  | x :: xs => .cons (.v _) (RDs.scalV xs)
/-- what is put where, the same of values and of data -/
structure KwD (gV : List V → List V → List V) (gD : List D → List D → List D) : Prop where
  rd : ∀ {K : PySem.W.Frag} {θ : List Addr} {H : Hp} {vs zs : List V} {ds es : List D}, RDs K θ H vs ds → RDs K θ H zs es → RDs K θ H (gV vs zs) (gD ds es)
/-- a keyword-only parameter's default stands in the def's own dict -/
theorem funD_of {K : PySem.W.Frag} {x qual : Str} {params : Arguments} {body : List Stmt} {scope : Scope} {kws : List (Str × V)} {f D : Addr} {oc : Value} {od : Option Addr} {doc pm : Value} {an : Option Addr} {cdv ct : Value} {osl : Array (Option Value)}
    (l : K.lookup f = some ⟨oc, od, .func (PySem.W.fnOf x qual params body scope .none (.ref D) doc pm an cdv ct), osl⟩) (c : PySem.W.codeIn K cdv qual = true) (k : PySem.W.keepIn K (.ref f) = true) (h : ∀ q ∈ kws, ∃ u, PySem.W.nsIn K D q.1 = some (some u) ∧ RelV q.2 u) :
    FunD K x qual params body scope [] kws f (PySem.W.fnOf x qual params body scope .none (.ref D) doc pm an cdv ct) :=
  ⟨⟨oc, od, .none, .ref D, doc, pm, an, cdv, ct, osl, rfl, l, c, .inl ⟨rfl, rfl⟩, .inr ⟨D, rfl, h⟩⟩, k⟩
section
variable {X : Cx} {CX : CXT} {k n N mm : Nat} {f C : Addr} {fd : FuncData} {ps ks : List Str} {sp : Sph} {x m : Str} {p pos apos kpos : Pos} {e o : Expr} {es : List Expr} {kws : List Keyword} {ta : TEh} {t tk : TAh} {us : List Value} {dd : List V} {nm : Option Str}
  {g : List Value → List Value → List Value} {gV : List V → List V → List V} {gD : List D → List D → List D}
theorem pkh_nil : PK X [] (liftA X.K hNil) := ⟨fun pos pins s σ H Q I ⟨θ, σh, A, Qh, rs, ra, w, k⟩ => pk_nil.run pos pins s σ H Q I (k _ _ _ _ _ (.refl _ _) ra .nil w)⟩
theorem pkh_cons {t : TEh} {u : TAh} (ha : PE X e (lift X.K t)) (hr : PK X kws (liftA X.K u)) : PK X (⟨nm, e, kpos⟩ :: kws) (liftA X.K (hCons t u)) :=
  ⟨fun pos pins s σ H Q I ⟨θ, σh, A, Qh, rs, ra, w, k⟩ => (pk_cons ha hr).run pos pins s σ H Q I ⟨θ, σh, A, _, rs, ra, w, fun θ1 H1 A1 v d e1 ra1 r1 w1 => ⟨θ1, σh, A1, _, rs.ext e1, ra1, w1, fun θ2 H2 A2 vs ds e2 ra2 r2 w2 =>
    k _ _ _ _ _ (e1.trans e2) ra2 (.cons (r1.ext e2) r2) w2⟩⟩⟩
/-- o.m(e, ..), the keyword-only ones left out -/
def hMethD (C : Addr) (m : Str) (n : Nat) (dd : List V) (sp : Sph) (ta : TEh) (t : TAh) : TEh := fun σ A Q => ta σ A fun x A1 => match x with
  | .ptr i => ∃ fs, A1[i]? = some (.ins C fs) ∧ fs.lookup m = none ∧ t σ A1 fun ds A2 => nArgs (ds.length + 1 + dd.length) n (Ask sp (.ptr i :: (ds ++ dd.map D.v)) A2 Q)
  | _ => False
theorem ph_methD {pl : Sem Bool} (he : PE X o (lift X.K ta)) (c : Cls X.K C) (hm : Meth X.K C m f) (F : FnOk X.prog X.w X.K X.mg X.base CX0 k f fd ps (spOf X.K n sp)) (hr : Room k X.A) (hb : ∃ us, Vals dd us ∧ L2.Binds X.K fd ps us) (ha : PA X (e :: es) (liftA X.K t))
    (hst : starEach (e :: es) X.env = (false, eval e X.env) :: starEach es X.env := by rfl) (hpl : (backTo pos (starEach es X.env)).any (·.1) = false := by rfl)
    (ht : eval (.Call (.Attribute o m apos) (e :: es) [] pos) X.env = (do
      let ov ← eval o X.env
      standAt apos.atName
      let (f, first) ← holding [ov] (getMethod ov m pl)
      callWith pos f first (backTo pos (starEach (e :: es) X.env)) (backToKw pos (keywordEach [] X.env))) := by rfl) :
    PE X (.Call (.Attribute o m apos) (e :: es) [] pos) (lift X.K (hMethD C m n dd sp ta t)) := by
  obtain ⟨us, hd, hb⟩ := hb
  exact (pe_meth (pl := pl) (E := fun _ _ _ => False) he c hm F hr hb hd pass0 ha hst hpl ht).imp fun σ H Q ⟨θ, σh, A, Qh, rs, ra, w, k⟩ => ⟨θ, σh, A, _, rs, ra, w, fun θ1 H1 A1 v d e1 ra1 r1 w1 => by
    split at w1
    · obtain ⟨fs, h1, h2, w1⟩ := w1
      cases r1 with
      | ptr hi =>
        obtain ⟨dx, xs, g, _, rf⟩ := ra1.ok _ _ _ hi h1
        refine ⟨_, dx, xs, rfl, g, rf.lookup_none h2, θ1, σh, A1, _, rs.ext e1, ra1, w1, fun θ2 H2 A2 vs ds e2 ra2 r2 w2 => ?_⟩
        obtain ⟨hn, w2⟩ := nArgs_ok w2
        exact ⟨by rw [List.length_cons, List.length_append, r2.length]; omega, θ2, _, A2, Qh, .cons ((RD.ptr hi).ext e2) (r2.append (RDs.scalV dd)), ra2, w2.h, (k.ext e1).ext e2⟩
    · exact w1.elim⟩
def tMethN (C : Addr) (m : Str) (n mm : Nat) (sp : Sp) (gV : List V → List V → List V) (E : XK) (ta : TE) (t tk : TA) : TE := fun σ H Q => ta σ H fun x H1 => ∃ a dx fs, x = .ref a ∧ H1 a = some (.ins C dx fs) ∧ fs.lookup m = none ∧
  t σ H1 fun vs H2 => tk σ H2 fun zs H3 => vs.length = n ∧ zs.length = mm ∧ sp (gV (.ref a :: vs) zs) H3 Q E
theorem pe_methN {pl : Sem Bool} {ta : TE} {t tk : TA} {sp : Sp} {E : XK} (he : PE X o ta) (c : Cls X.K C) (hm : Meth X.K C m f) (F : FnOk X.prog X.w X.K X.mg X.base CX k f fd ps sp) (hr : Room k X.A) (hb : KBn X.K fd ps (n + 1) ks g gV) (hx : Passes CX X E) (ha : PA X (e :: es) t) (hkw : PK X kws tk)
    (hall : (backToKw pos (keywordEach kws X.env)).all (·.1.isSome) = true := by rfl) (hks : (backToKw pos (keywordEach kws X.env)).filterMap (·.1) = ks := by rfl)
    (hst : starEach (e :: es) X.env = (false, eval e X.env) :: starEach es X.env := by rfl) (hpl : ((backTo pos (starEach (e :: es) X.env)).any (·.1) || (backToKw pos (keywordEach kws X.env)).any (·.1.isNone)) = false := by rfl)
    (ht : eval (.Call (.Attribute o m apos) (e :: es) kws pos) X.env = (do
      let ov ← eval o X.env
      standAt apos.atName
      let (f, first) ← holding [ov] (getMethod ov m pl)
      callWith pos f first (backTo pos (starEach (e :: es) X.env)) (backToKw pos (keywordEach kws X.env))) := by rfl) :
    PE X (.Call (.Attribute o m apos) (e :: es) kws pos) (tMethN C m n ks.length sp gV E ta t tk) := by
  refine ⟨fun pins s σ H Q I h => ?_⟩
  refine PySem.W.methodCall_KW (pl := pl) (thn (he.run pins s σ H _ I h) fun u s1 ⟨x, H1, I1, rx, a, dx, fs, ex, ea, l, q⟩ => ?_) ht
  subst ex
  obtain rfl : u = Value.ref a := rx
  refine getmeth_ok I1 ea c hm l ?_
  refine PySem.W.callWith_KW (first := [.ref a]) (h₀ := X.base) I.ok.mod.kin hm.kp hall (thn (ha.run pos pins s1 σ H1 _ I1 q) fun us s2 ⟨vs, H2, I2, r, q2⟩ => ?_) hpl hst
  refine thn (hkw.run pos pins s2 σ H2 _ I2 q2) fun ws s3 ⟨zs, H3, I3, rz, l1, l2, q3⟩ => ⟨I3.kIn, ?_⟩
  rw [hks]
  exact run_fnN (us := .ref a :: us) (vs := .ref a :: vs) F hr hb hx I3 (.cons rfl r) rz (by rw [List.length_cons, l1]) l2 q3
/-- o.m(e, .., k = v, ..) -/
def hMethK (C : Addr) (m : Str) (N n mm : Nat) (gD : List D → List D → List D) (sp : Sph) (ta : TEh) (t tk : TAh) : TEh := fun σ A Q => ta σ A fun x A1 => match x with
  | .ptr i => ∃ fs, A1[i]? = some (.ins C fs) ∧ fs.lookup m = none ∧ t σ A1 fun ds A2 => tk σ A2 fun es A3 => nArgs ds.length n (nArgs es.length mm (nArgs (gD (.ptr i :: ds) es).length N (Ask sp (gD (.ptr i :: ds) es) A3 Q)))
  | _ => False
theorem ph_methK {pl : Sem Bool} (he : PE X o (lift X.K ta)) (c : Cls X.K C) (hm : Meth X.K C m f) (F : FnOk X.prog X.w X.K X.mg X.base CX0 k f fd ps (spOf X.K N sp)) (hr : Room k X.A) (hg : KwD gV gD) (hb : ∃ g, KBn X.K fd ps (n + 1) ks g gV) (ha : PA X (e :: es) (liftA X.K t)) (hkw : PK X kws (liftA X.K tk))
    (hall : (backToKw pos (keywordEach kws X.env)).all (·.1.isSome) = true := by rfl) (hks : (backToKw pos (keywordEach kws X.env)).filterMap (·.1) = ks := by rfl)
    (hst : starEach (e :: es) X.env = (false, eval e X.env) :: starEach es X.env := by rfl) (hpl : ((backTo pos (starEach (e :: es) X.env)).any (·.1) || (backToKw pos (keywordEach kws X.env)).any (·.1.isNone)) = false := by rfl)
    (ht : eval (.Call (.Attribute o m apos) (e :: es) kws pos) X.env = (do
      let ov ← eval o X.env
      standAt apos.atName
      let (f, first) ← holding [ov] (getMethod ov m pl)
      callWith pos f first (backTo pos (starEach (e :: es) X.env)) (backToKw pos (keywordEach kws X.env))) := by rfl) :
    PE X (.Call (.Attribute o m apos) (e :: es) kws pos) (lift X.K (hMethK C m N n ks.length gD sp ta t tk)) := by
  obtain ⟨g, hb⟩ := hb
  exact (pe_methN (pl := pl) (E := fun _ _ _ => False) he c hm F hr hb pass0 ha hkw hall hks hst hpl ht).imp fun σ H Q ⟨θ, σh, A, Qh, rs, ra, w, k⟩ => ⟨θ, σh, A, _, rs, ra, w, fun θ1 H1 A1 v d e1 ra1 r1 w1 => by
    split at w1
    · obtain ⟨fs, h1, h2, w1⟩ := w1
      cases r1 with
      | ptr hi =>
        obtain ⟨dx, xs, g, _, rf⟩ := ra1.ok _ _ _ hi h1
        refine ⟨_, dx, xs, rfl, g, rf.lookup_none h2, θ1, σh, A1, _, rs.ext e1, ra1, w1, fun θ2 H2 A2 vs ds e2 ra2 r2 w2 => ⟨θ2, σh, A2, _, (rs.ext e1).ext e2, ra2, w2, fun θ3 H3 A3 zs es e3 ra3 r3 w3 => ?_⟩⟩
        obtain ⟨hn, w3⟩ := nArgs_ok w3
        obtain ⟨hn2, w3⟩ := nArgs_ok w3
        obtain ⟨hn3, w3⟩ := nArgs_ok w3
        have rr := hg.rd (RDs.cons ((RD.ptr hi).ext (e2.trans e3)) (r2.ext e3)) r3
        exact ⟨by rw [r2.length]; exact hn, by rw [r3.length]; exact hn2, by rw [rr.length]; exact hn3, θ3, _, A3, Qh, rr, ra3, w3.h, ((k.ext e1).ext e2).ext e3⟩
    · exact w1.elim⟩
/-- f(e, ..), the keyword-only ones left out -/
def hCallD (n : Nat) (dd : List V) (sp : Sph) (t : TAh) : TEh := fun σ A Q => t σ A fun ds A1 => nArgs (ds.length + dd.length) n (Ask sp (ds ++ dd.map D.v) A1 Q)
theorem ph_callD (F : FnOk X.prog X.w X.K X.mg X.base CX0 k f fd ps (spOf X.K n sp)) (room : Room k X.A) (hg : Gl X x) (hm : X.mg x = some (.ref f)) (hk : PySem.W.keepIn X.K (.ref f) = true) (hb : ∃ us, Vals dd us ∧ L2.Binds X.K fd ps us)
    (ha : PA X (e :: es) (liftA X.K t)) (hdb : (x == ("__debug__" : Str)) = false := by decide) (hst : starEach (e :: es) X.env = (false, eval e X.env) :: starEach es X.env := by rfl)
    (hpl : (backTo pos (starEach es X.env)).any (·.1) = false := by rfl) : PE X (.Call (.Name x p) (e :: es) [] pos) (lift X.K (hCallD n dd sp t)) := by
  obtain ⟨us, hd, hb⟩ := hb
  exact (pe_call (E := fun _ _ _ => False) F room hg hm hk hb hd pass0 ha hdb hst hpl).imp fun σ H Q ⟨θ, σh, A, Qh, rs, ra, w, k⟩ => ⟨θ, σh, A, _, rs, ra, w, fun θ1 H1 A1 vs ds e1 ra1 r1 w1 => by
    obtain ⟨hn, w1⟩ := nArgs_ok w1
    exact ⟨by rw [List.length_append, r1.length]; exact hn, θ1, _, A1, Qh, r1.append (RDs.scalV dd), ra1, w1.h, k.ext e1⟩⟩
/-- f(e, .., k = v, ..) -/
def hCallK (N n mm : Nat) (gD : List D → List D → List D) (sp : Sph) (t tk : TAh) : TEh := fun σ A Q => t σ A fun ds A1 => tk σ A1 fun es A2 => nArgs ds.length n (nArgs es.length mm (nArgs (gD ds es).length N (Ask sp (gD ds es) A2 Q)))
theorem ph_callK (F : FnOk X.prog X.w X.K X.mg X.base CX0 k f fd ps (spOf X.K N sp)) (room : Room k X.A) (hg : Gl X x) (hm : X.mg x = some (.ref f)) (hk : PySem.W.keepIn X.K (.ref f) = true) (hgd : KwD gV gD) (hb : ∃ g, KBn X.K fd ps n ks g gV)
    (ha : PA X (e :: es) (liftA X.K t)) (hkw : PK X kws (liftA X.K tk)) (hall : (backToKw pos (keywordEach kws X.env)).all (·.1.isSome) = true := by rfl) (hks : (backToKw pos (keywordEach kws X.env)).filterMap (·.1) = ks := by rfl)
    (hdb : (x == ("__debug__" : Str)) = false := by decide) (hst : starEach (e :: es) X.env = (false, eval e X.env) :: starEach es X.env := by rfl)
    (hpl : ((backTo pos (starEach (e :: es) X.env)).any (·.1) || (backToKw pos (keywordEach kws X.env)).any (·.1.isNone)) = false := by rfl) : PE X (.Call (.Name x p) (e :: es) kws pos) (lift X.K (hCallK N n ks.length gD sp t tk)) := by
  obtain ⟨g, hb⟩ := hb
  exact (pe_callN (E := fun _ _ _ => False) F room hg hm hk hb pass0 ha hkw hall hks hdb hst hpl).imp fun σ H Q ⟨θ, σh, A, Qh, rs, ra, w, k⟩ => ⟨θ, σh, A, _, rs, ra, w, fun θ1 H1 A1 vs ds e1 ra1 r1 w1 => ⟨θ1, σh, A1, _, rs.ext e1, ra1, w1, fun θ2 H2 A2 zs es e2 ra2 r2 w2 => by
    obtain ⟨hn, w2⟩ := nArgs_ok w2
    obtain ⟨hn2, w2⟩ := nArgs_ok w2
    obtain ⟨hn3, w2⟩ := nArgs_ok w2
    have rr := hgd.rd (r1.ext e2) r2
    exact ⟨by rw [r1.length]; exact hn, by rw [r2.length]; exact hn2, by rw [rr.length]; exact hn3, θ2, _, A2, Qh, rr, ra2, w2.h, (k.ext e1).ext e2⟩⟩⟩
end
theorem kwd_app : KwD (fun vs zs => vs ++ zs) (fun ds es => ds ++ es) := ⟨fun r1 r2 => r1.append r2⟩
end Rp

/-! enumerate and zip of a list or a tuple, over data. -/
namespace PySem
set_option maxHeartbeats 1000000 in
theorem meets_enumerate_new1 {v : Value} {o : Obj} {H : Heap → Prop} (B : Begins v o H) :
    Meets (Builtin.«enumerate.__new__» ⟨[.type "enumerate", v], []⟩) (fun _ R s => H s.heap ∧
      R (.ok (.ret (.ref (s.heap.push o).objs.size))) { s with heap := (s.heap.push o).push { cls := .type "enumerate", data := .fields #[.none, .bool false, .ref s.heap.objs.size, rawInt 0, .none, .none] } }) :=
  .of_wp fun prog w A R s h => by
    obtain ⟨hp, g, d, tk, os⟩ := s; obtain ⟨h1, h⟩ := h
    have hsub := sub_enumerate
    have q1 : ∀ {A' : Around} {E : Value → Shared → Prop} {Q : Value → Shared → Prop}, Q (.ref hp.objs.size) ⟨hp.push o, g, d, tk, os⟩ → wpAny (model prog w) A' (pyIter v) Q E ⟨hp, g, d, tk, os⟩ :=
      fun q => B.iter prog w _ _ ⟨hp, g, d, tk, os⟩ _ h1 q
    wp_walk using q1
    refine wpAny_stack_any fun st => wpAny_pure ?_
    split
    · rename_i c _ _ _ _ _
      cases (c == Value.type "enumerate")
      · wp_walk using q1
        exact ⟨_, rfl, h⟩
      · wp_walk using q1
        exact ⟨_, rfl, h⟩
    · wp_walk using q1
      exact ⟨_, rfl, h⟩
/-- enumerate(v): its two new cells -/
theorem enum_begins1 {prog : Program} {w : World} {A : Around} {E : Value → Shared → Prop} {s : Shared} {v : Value} {o : Obj} {H : Heap → Prop} {Q : Value → Shared → Prop} (B : Begins v o H) (h1 : H s.heap)
    (h : ∀ h', IsEnum h' (s.heap.objs.size + 1) s.heap.objs.size 0 .none → h'.get? s.heap.objs.size = some o → h'.objs.size = s.heap.objs.size + 2 →
      (∀ b o, s.heap.get? b = some o → h'.get? b = some o) → Q (.ref (s.heap.objs.size + 1)) { s with heap := h' }) :
    wpAny (model prog w) A (call (.type "enumerate") [v]) Q E s := by
  refine callType_new F.called_enumerate (by decide) (F.typeCall_enumerate_1 _) (F.newCall_enumerate_1 _) (fun obj => F.args_object_init_2 obj _) F.entry_enumerate_new
    (meets_enumerate_new1 B) ⟨h1, ?_⟩
  have hz : (s.heap.push o).objs.size = s.heap.objs.size + 1 := Heap.size_push ..
  show _ ∧ _
  rw [hz]
  have he : IsEnum ((s.heap.push o).push { cls := .type "enumerate", data := .fields #[.none, .bool false, .ref s.heap.objs.size, rawInt 0, .none, .none] }) (s.heap.objs.size + 1) s.heap.objs.size 0 .none := by
    have := Heap.get?_push_size (s.heap.push o) (o := { cls := .type "enumerate", data := .fields #[.none, .bool false, .ref s.heap.objs.size, rawInt 0, .none, .none] }) rfl
    rw [hz] at this; exact this
  refine ⟨⟨_, he, rfl⟩, h _ he (Heap.get?_push_of_some _ (Heap.get?_push_size _ B.free)) (by rw [Heap.size_push, hz]) fun b o x => Heap.get?_push_of_some _ (Heap.get?_push_of_some _ x)⟩
end PySem
namespace Rp
open PySem PySem.Spec PyProof.Rows L2
/-- the tuple at a, each item in a new pair -/
def IteT (K : PySem.W.Frag) (a : Addr) : It :=
  ⟨fun i H => ∃ (xs : List V) (x : V), SqT K H a xs ∧ xs[i]? = some x, fun i H v H' => ∃ T x, v = .ref T ∧ H T = none ∧ H' = upd H T (.tup [.int (i : Nat), x]) ∧ ∀ xs, SqT K H a xs → xs[i]? = some x, fun i H => ∃ xs : List V, SqT K H a xs ∧ xs.length ≤ i⟩
theorem turn_enumT {P : Program} {w : World} {K : PySem.W.Frag} {elts : List Expr} {kk : Nat} {tpos : Pos} (a e it : Addr) :
    Turn P w K (.Tuple elts kk tpos) (IteT K a) [e, it] e (fun i h => (∃ old, IsEnum h e it ((i : Nat) : Int) old) ∧ h.IsTupleIter it a i ∧ e ≠ it) where
  mem := by simp
  obj := fun i h st b hb => by
    obtain ⟨⟨old, he⟩, ⟨o, ho, hc, hd⟩, _⟩ := st
    have e' : b = e ∨ b = it := by simpa using hb
    rcases e' with z | z
    · rw [z]; exact ⟨_, he, fun v q => nomatch q⟩
    · rw [z]; exact ⟨o, ho, fun v q => by rw [hd] at q; cases q⟩
  keep := fun i h h' st k => let ⟨⟨old, he⟩, hi, hne⟩ := st; ⟨⟨old, k e (by simp) _ he⟩, hi.at fun o q => k it (by simp) o q, hne⟩
  item := by
    intro X hP hw hK hc i pins s σ H E I hf st hg
    subst hP hw hK
    obtain ⟨⟨old, he⟩, hit, hne⟩ := st
    obtain ⟨xs, x, hq, hx⟩ := hg
    obtain ⟨its, rv, p, hz⟩ := I.tuple hq
    obtain ⟨u, hu, ru⟩ := rv.get hx
    have hel : e < s.heap.objs.size := Heap.lt_size he
    have hil : it < s.heap.objs.size := by obtain ⟨_, q, _⟩ := hit; exact Heap.lt_size q
    have hea : e ≠ a := fun z => by
      obtain ⟨o, h1, h2, _⟩ := id p
      rw [← z] at h1
      have h3 := he.symm.trans h1
      cases h3
      injection h2 with h2
      exact absurd h2 (by decide)
    have hia : a ≠ it := fun z => by
      obtain ⟨o, h1, h2, _⟩ := id p
      obtain ⟨o', h3, h4, _⟩ := hit
      rw [z, h3] at h1
      cases h1
      rw [h4] at h2
      injection h2 with h2
      exact absurd h2 (by decide)
    have hin : its.toArray[i]? = some u := by simpa using hu
    have hlt : i < its.toArray.size := by
      obtain ⟨h, _⟩ := Array.getElem?_eq_some_iff.mp hin
      exact h
    have D := Draws.tuple (prog := X.prog) (w := X.w) (A := X.A.in1) (I.ok.hd hc) it a hia its.toArray
    refine wpAny_pyNext_enum_itemC D he ⟨hit, p⟩ hlt hne (by simp [hne, hea]) fun x' h' tk hP ho hst hT hsz hk => ?_
    have ex : x' = u := Option.some.inj (hP.symm.trans hin)
    subst ex
    obtain ⟨hit', _⟩ := hst
    refine ⟨_, rfl, wpAny_letOwnedTupleGo_enum (s := { s with heap := h', toks := tk + 1 }) ho fun h'' he' sb => ?_⟩
    have hT2 : h''.get? s.heap.objs.size = some { cls := .type "tuple", data := .seq #[.int (i : Nat) tk, x'] } := (sb.2 _ (Nat.ne_of_gt hel)).trans hT
    have new : ObjOk X.prog X.w (upd H s.heap.objs.size (.tup [.int (i : Nat), x])) h'' s.heap.objs.size (.tup [.int (i : Nat), x]) :=
      ⟨by show 2 ≤ sizeLine; decide, [.int (i : Nat) tk, x'], .cons ⟨_, rfl⟩ (.cons ru .nil), ⟨_, hT2, rfl, _, rfl⟩⟩
    have I1 : Inv X pins σ (upd H s.heap.objs.size (.tup [.int (i : Nat), x])) { s with heap := h'', toks := tk + 1 } :=
      I.turnedNew (ch := [e, it]) (fun b ob hb q => (sb.2 b (fun z => hb (by simp [z]))).trans (hk b ob (fun z => hb (by simp [z])) (fun z => hb (by simp [z])) q)) hf (Nat.le_refl _) new
    refine ⟨.ref s.heap.objs.size, _, I1, rfl, ⟨_, x, rfl, I.hok.fresh (Nat.le_refl _), rfl, fun ys hy => by rw [I.tuple_inj hy hq]; exact hx⟩, ⟨⟨x', ?_⟩, hit'.at fun o q => (sb.2 it (Ne.symm hne)).trans q, hne⟩, fun b hb => ?_⟩
    · have e1 : ((i + 1 : Nat) : Int) = (i : Int) + 1 := by omega
      rw [e1]; exact he'
    · have hb' : b < s.heap.objs.size := by
        have e' : b = e ∨ b = it := by simpa using hb
        rcases e' with z | z
        · rw [z]; exact hel
        · rw [z]; exact hil
      rw [upd_ne (Nat.ne_of_lt hb')]
      exact (hf b hb).1
  done := by
    intro X hP hw hK hc i pins s σ H E I hf st hg
    subst hP hw hK
    obtain ⟨⟨old, he⟩, hit, hne⟩ := st
    obtain ⟨xs, hq, hx⟩ := hg
    obtain ⟨its, rv, p, hz⟩ := I.tuple hq
    obtain ⟨f0, f1, f2, f3, f4, f5⟩ := hf it (by simp)
    have hl := rv.length
    have hia : a ≠ it := fun z => by
      obtain ⟨o, h1, h2, _⟩ := id p
      obtain ⟨o', h3, h4, _⟩ := hit
      rw [z, h3] at h1
      cases h1
      rw [h4] at h2
      injection h2 with h2
      exact absurd h2 (by decide)
    have hh : X.A.in1.in1.handled = none := I.ok.hd hc
    have D : Draws X.prog X.w X.A.in1 it [it, a] i (fun _ _ => True) (fun j h => j = i ∧ h.IsTupleIter it a j ∧ h.IsTuple a its.toArray) := {
      live := fun _ _ st => let ⟨o, ho, _⟩ := st.2.1; ⟨o, ho⟩
      frame := fun _ _ _ st hk => ⟨st.1, st.2.1.at fun o e => hk it (by simp) o e, st.2.2.at fun o e => hk a (by simp) o e⟩
      item := fun j s Q E hi st _ => absurd st.1 (by omega)
      done := fun s Q E st hE => wpAny_nextOf_tuple_end (I.ok.hd hc) st.2.1 st.2.2 (by simp; omega) hE }
    exact wpAny_pyNext_enum_endD D he ⟨rfl, hit, p⟩ fun h' eb => ⟨rfl, I.turned (t' := s.toks) (fun b o hb q => eb b o hb q) f0 f1 f3 f4 f5⟩
  self := fun A i s Q E st h => let ⟨⟨_, he⟩, _⟩ := st; wpAny_pyIter_enum he h
def iEnumA (K : PySem.W.Frag) (ta : TA) : TI := fun σ H R => ta σ H fun vs H1 => ∃ a, vs = [.ref a] ∧ ((∃ xs, SqL K H1 a xs ∧ R (Ite K a) H1) ∨ ∃ xs, SqT K H1 a xs ∧ R (IteT K a) H1)
theorem pi_enumA {X : Cx} {e : Expr} {ta : TA} {p pos tpos : Pos} {elts : List Expr} {kk : Nat} (hg : Gl X "enumerate") (hm : X.mg "enumerate" = none) (ha : PA X [e] ta) (hs : starEach [e] X.env = [(false, eval e X.env)] := by rfl) :
    PI X (.Tuple elts kk tpos) (.Call (.Name "enumerate" p) [e] [] pos) (iEnumA X.K ta) := by
  refine ⟨fun pins s σ H R I h => ?_⟩
  refine Call_ (ld_blt I hg hm boot_enumerate (PyProof.Rows.callWith_type1 (thn (ha.run pos pins s σ H _ I h) fun us s1 ⟨vs, H1, I1, r1, q1⟩ => ?_) hs rfl))
  obtain ⟨a, ex, q⟩ := q1
  subst ex
  cases r1 with
  | cons r rr =>
    cases rr
    cases r
    have fp : ∀ b ∈ [s1.heap.objs.size + 1, s1.heap.objs.size], FpOk X pins H1 b := fun b hb => by
      have e' : b = s1.heap.objs.size + 1 ∨ b = s1.heap.objs.size := by simpa using hb
      have hle : s1.heap.objs.size ≤ b := by
        rcases e' with z | z
        · rw [z]; exact Nat.le_add_right _ _
        · rw [z]; exact Nat.le_refl _
      exact I1.fpOk hle (I1.hok.fresh hle)
    rcases q with ⟨xs, hq, q⟩ | ⟨xs, hq, q⟩
    · obtain ⟨its, rv, p', hz⟩ := I1.list hq
      refine call_enumerate_list p'.isList fun h' he hit hsz hk => wpAny_pyIter_enum he ?_
      have I2 : Inv X pins σ H1 { s1 with heap := h' } := I1.kept (t' := s1.toks) hk
      exact ⟨s1.heap.objs.size + 1, [s1.heap.objs.size + 1, s1.heap.objs.size], _, _, H1, rfl, I2, turn_enum a (s1.heap.objs.size + 1) s1.heap.objs.size, ⟨⟨.none, he⟩, hit, Nat.succ_ne_self _⟩, fp, q⟩
    · obtain ⟨its, rv, p', hz⟩ := I1.tuple hq
      refine enum_begins1 (begins_tuple a its.toArray) p' fun h' he hit hsz hk => wpAny_pyIter_enum he ?_
      have I2 : Inv X pins σ H1 { s1 with heap := h' } := I1.kept (t' := s1.toks) hk
      exact ⟨s1.heap.objs.size + 1, [s1.heap.objs.size + 1, s1.heap.objs.size], _, _, H1, rfl, I2, turn_enumT a (s1.heap.objs.size + 1) s1.heap.objs.size, ⟨⟨.none, he⟩, ⟨_, hit, rfl, rfl⟩, Nat.succ_ne_self _⟩, fp, q⟩
/-! ### over data -/
def srcE (ds : List D) (lv : OH → Prop) : Src := ⟨ds.length, fun i => ds[i]?.map fun d => .tup [.v (.int (i : Nat)), d], lv⟩
def hEnum (t : TAh) : TIh := fun σ A R => t σ A fun ds A1 => match ds with
  | [.tup es] => R (srcE es fun _ => True) A1
  | [.ptr k] => ∃ es, A1[k]? = some (.lst es) ∧ R (srcE es fun A => A[k]? = some (.lst es)) A1
  | [.scr ns] => R (srcE (ns.map fun n => .v (.int n)) fun _ => True) A1
  | _ => False
section
variable {K : PySem.W.Frag}
theorem new_pair {θ : List Addr} {H : Hp} {A : OH} {T : Addr} {x y : V} {d e : D} (ra : RA K θ H A) (hp : H T = none) (rx : RD K θ H x d) (ry : RD K θ H y e) : Ext θ H θ (upd H T (.tup [x, y])) ∧ RA K θ (upd H T (.tup [x, y])) A ∧ RD K θ (upd H T (.tup [x, y])) (.ref T) (.tup [d, e]) :=
  ⟨.new0 hp, ra.new0 hp, .tup (SqT.of upd_same) ((RDs.cons rx (.cons ry .nil)).stab0 (stab_new hp))⟩
theorem rj_enumT {θ0 : List Addr} {H0 : Hp} {a : Addr} {xs : List V} {ds : List D} (hs : SqT K H0 a xs) (r : RDs K θ0 H0 xs ds) : RJ K θ0 H0 (IteT K a) (srcE ds fun _ => True) := fun θ H A i e ra _ => by
  have hs' := SqT.stab hs e.stab
  have r' := r.ext e
  refine ⟨fun hi => ⟨⟨xs, xs[i]'(by rw [r.length]; exact hi), hs', List.getElem?_eq_getElem _⟩, fun v H' y => ?_⟩, fun hi => ⟨xs, hs', by rw [r.length]; exact hi⟩⟩
  obtain ⟨T, x, rfl, hT, rfl, hx⟩ := y
  obtain ⟨d, h1, h2⟩ := r'.get' (hx xs hs')
  obtain ⟨p1, p2, p3⟩ := new_pair ra hT (.v (.int (i : Nat))) h2
  exact ⟨_, by show (ds[i]?).map _ = _; rw [h1]; rfl, p1, p2, p3⟩
theorem rj_enumL {θ0 : List Addr} {H0 : Hp} {a : Addr} {k : Nat} {ds : List D} (hk : θ0[k]? = some a) : RJ K θ0 H0 (Ite K a) (srcE ds fun A => A[k]? = some (.lst ds)) := fun θ H A i e ra (lv : A[k]? = some (.lst ds)) => by
  have hk' : θ[k]? = some a := by
    obtain ⟨t, rfl⟩ := e.pre
    rw [List.getElem?_append_left (List.getElem?_eq_some_iff.mp hk).1]; exact hk
  obtain ⟨xs, g, r⟩ := ra.ok _ _ _ hk' lv
  refine ⟨fun hi => ⟨⟨xs, xs[i]'(by rw [r.length]; exact hi), SqL.of g, List.getElem?_eq_getElem _⟩, fun v H' y => ?_⟩, fun hi => ⟨xs, SqL.of g, by rw [r.length]; exact hi⟩⟩
  obtain ⟨T, x, rfl, hT, rfl, hx⟩ := y
  obtain ⟨d, h1, h2⟩ := r.get' (hx xs (SqL.of g))
  obtain ⟨p1, p2, p3⟩ := new_pair ra hT (.v (.int (i : Nat))) h2
  exact ⟨_, by show (ds[i]?).map _ = _; rw [h1]; rfl, p1, p2, p3⟩
theorem rj_enumF {θ0 : List Addr} {H0 : Hp} {a : Addr} {ns : List Int} (hs : SqF K H0 a (ns.map V.int)) : RJ K θ0 H0 (Ite K a) (srcE (ns.map fun n => .v (.int n)) fun _ => True) := fun θ H A i e ra _ => by
  have hs' := (SqF.stab hs e.stab).l
  refine ⟨fun hi => ⟨⟨ns.map V.int, (ns.map V.int)[i]'(by rw [List.length_map]; simpa [srcE] using hi), hs', List.getElem?_eq_getElem _⟩, fun v H' y => ?_⟩, fun hi => ⟨_, hs', by rw [List.length_map]; simpa [srcE] using hi⟩⟩
  obtain ⟨T, x, rfl, hT, rfl, hx⟩ := y
  have q := hx _ hs'
  rw [List.getElem?_map] at q
  cases h : ns[i]? with
  | none => rw [h] at q; cases q
  | some n =>
    rw [h] at q
    cases q
    obtain ⟨p1, p2, p3⟩ := new_pair (x := .int (i : Nat)) (y := .int n) (d := .v (.int (i : Nat))) (e := .v (.int n)) ra hT (.v _) (.v _)
    exact ⟨_, by show ((ns.map fun n => D.v (.int n))[i]?).map _ = _; rw [List.getElem?_map, h]; rfl, p1, p2, p3⟩
end
section
variable {X : Cx} {e e2 : Expr} {p pos tpos : Pos} {elts : List Expr} {kk : Nat}
theorem pih_enumerate {t : TAh} (hg : Gl X "enumerate") (hm : X.mg "enumerate" = none) (ha : PA X [e] (liftA X.K t)) (hs : starEach [e] X.env = [(false, eval e X.env)] := by rfl) :
    PI X (.Tuple elts kk tpos) (.Call (.Name "enumerate" p) [e] [] pos) (liftI X.K (hEnum t)) :=
  (pi_enumA hg hm ha hs).imp fun σ H R ⟨θ, σh, A, Rh, rs, ra, w, k⟩ => ⟨θ, σh, A, _, rs, ra, w, fun θ1 H1 A1 vs ds e1 ra1 r1 w1 => by
    split at w1
    · obtain ⟨v, rfl, rv⟩ := r1.one
      cases rv with
      | tup hs r => exact ⟨_, rfl, .inr ⟨_, hs, k _ _ _ _ _ e1 ra1 (rj_enumT hs r) w1⟩⟩
    · obtain ⟨es, h0, q⟩ := w1
      obtain ⟨v, rfl, rv⟩ := r1.one
      cases rv with
      | ptr hi =>
        obtain ⟨xs, g, r⟩ := ra1.ok _ _ _ hi h0
        exact ⟨_, rfl, .inl ⟨_, SqL.of g, k _ _ _ _ _ e1 ra1 (rj_enumL hi) q⟩⟩
    · obtain ⟨v, rfl, rv⟩ := r1.one
      cases rv with
      | scr hs => exact ⟨_, rfl, .inl ⟨_, hs.l, k _ _ _ _ _ e1 ra1 (rj_enumF hs) w1⟩⟩
    · exact w1.elim⟩
/-! ### zip -/
def srcZ (ds es : List D) (lv : OH → Prop) : Src := ⟨min ds.length es.length, fun i => match ds[i]?, es[i]? with | some d, some e => some (.tup [d, e]) | _, _ => none, lv⟩
def hZip (t : TAh) : TIh := fun σ A R => t σ A fun ds A1 => match ds with
  | [.tup ds, .tup es] => R (srcZ ds es fun _ => True) A1
  | [.ptr k, .ptr l] => ∃ ds es, A1[k]? = some (.lst ds) ∧ A1[l]? = some (.lst es) ∧ R (srcZ ds es fun A => A[k]? = some (.lst ds) ∧ A[l]? = some (.lst es)) A1
  | _ => False
theorem rj_zipT {K : PySem.W.Frag} {θ0 : List Addr} {H0 : Hp} {a b : Addr} {xs ys : List V} {ds es : List D} (hs : SqT K H0 a xs) (hs2 : SqT K H0 b ys) (r : RDs K θ0 H0 xs ds) (r2 : RDs K θ0 H0 ys es) : RJ K θ0 H0 (RZ.ItzT K a b) (srcZ ds es fun _ => True) := fun θ H A i e ra _ => by
  have hs' := SqT.stab hs e.stab
  have hs2' := SqT.stab hs2 e.stab
  have r' := r.ext e
  have r2' := r2.ext e
  have l1 := r.length
  have l2 := r2.length
  refine ⟨fun hi => ?_, fun hi => ⟨xs, ys, hs', hs2', ?_⟩⟩
  · have hi' : i < min ds.length es.length := hi
    refine ⟨⟨xs, ys, xs[i]'(by omega), ys[i]'(by omega), hs', hs2', List.getElem?_eq_getElem _, List.getElem?_eq_getElem _⟩, fun v H' y => ?_⟩
    obtain ⟨T, x, y, rfl, hT, rfl, hx, hy⟩ := y
    obtain ⟨d, h1, h2⟩ := r'.get' (hx xs hs')
    obtain ⟨d2, g1, g2⟩ := r2'.get' (hy ys hs2')
    obtain ⟨p1, p2, p3⟩ := new_pair ra hT h2 g2
    exact ⟨_, by show (match ds[i]?, es[i]? with | some d, some e => some (D.tup [d, e]) | _, _ => none) = _; rw [h1, g1], p1, p2, p3⟩
  · have hi' : min ds.length es.length ≤ i := hi
    omega
theorem rj_zipL {K : PySem.W.Frag} {θ0 : List Addr} {H0 : Hp} {a b : Addr} {k l : Nat} {ds es : List D} (hk : θ0[k]? = some a) (hl : θ0[l]? = some b) : RJ K θ0 H0 (Itz K a b) (srcZ ds es fun A => A[k]? = some (.lst ds) ∧ A[l]? = some (.lst es)) := fun θ H A i e ra (lv : A[k]? = some (.lst ds) ∧ A[l]? = some (.lst es)) => by
  obtain ⟨t, rfl⟩ := e.pre
  have hk' : (θ0 ++ t)[k]? = some a := by rw [List.getElem?_append_left (List.getElem?_eq_some_iff.mp hk).1]; exact hk
  have hl' : (θ0 ++ t)[l]? = some b := by rw [List.getElem?_append_left (List.getElem?_eq_some_iff.mp hl).1]; exact hl
  obtain ⟨xs, g, r⟩ := ra.ok _ _ _ hk' lv.1
  obtain ⟨ys, g', r2⟩ := ra.ok _ _ _ hl' lv.2
  have l1 := r.length
  have l2 := r2.length
  refine ⟨fun hi => ?_, fun hi => ⟨xs, ys, SqL.of g, SqL.of g', ?_⟩⟩
  · have hi' : i < min ds.length es.length := hi
    refine ⟨⟨xs, ys, xs[i]'(by omega), ys[i]'(by omega), SqL.of g, SqL.of g', List.getElem?_eq_getElem _, List.getElem?_eq_getElem _⟩, fun v H' y => ?_⟩
    obtain ⟨T, x, y, rfl, hT, rfl, hx, hy⟩ := y
    obtain ⟨d, h1, h2⟩ := r.get' (hx xs (SqL.of g))
    obtain ⟨d2, g1, g2⟩ := r2.get' (hy ys (SqL.of g'))
    obtain ⟨p1, p2, p3⟩ := new_pair ra hT h2 g2
    exact ⟨_, by show (match ds[i]?, es[i]? with | some d, some e => some (D.tup [d, e]) | _, _ => none) = _; rw [h1, g1], p1, p2, p3⟩
  · have hi' : min ds.length es.length ≤ i := hi
    omega
theorem pih_zip {t : TAh} (hg : Gl X "zip") (hm : X.mg "zip" = none) (ha : PA X [e, e2] (liftA X.K t))
    (hs : starEach [e, e2] X.env = (false, eval e X.env) :: starEach [e2] X.env := by rfl) (hpl : (backTo pos (starEach [e2] X.env)).any (·.1) = false := by rfl) :
    PI X (.Tuple elts kk tpos) (.Call (.Name "zip" p) [e, e2] [] pos) (liftI X.K (hZip t)) :=
  (RZ.pi_zipA hg hm ha hs hpl).imp fun σ H R ⟨θ, σh, A, Rh, rs, ra, w, k⟩ => ⟨θ, σh, A, _, rs, ra, w, fun θ1 H1 A1 vs ds e1 ra1 r1 w1 => by
    split at w1
    · obtain ⟨x, y, rfl, rx, ry⟩ := r1.two
      cases rx with
      | tup hs r =>
        cases ry with
        | tup hs2 r2 => exact ⟨_, _, _, _, rfl, .inr ⟨hs, hs2, k _ _ _ _ _ e1 ra1 (rj_zipT hs hs2 r r2) w1⟩⟩
    · obtain ⟨ds, es, h0, h1, q⟩ := w1
      obtain ⟨x, y, rfl, rx, ry⟩ := r1.two
      cases rx with
      | ptr hi =>
        cases ry with
        | ptr hj =>
          obtain ⟨xs, g, r⟩ := ra1.ok _ _ _ hi h0
          obtain ⟨ys, g', r'⟩ := ra1.ok _ _ _ hj h1
          exact ⟨_, _, _, _, rfl, .inl ⟨SqL.of g, SqL.of g', k _ _ _ _ _ e1 ra1 (rj_zipL hi hj) q⟩⟩
    · exact w1.elim⟩
end
end Rp

/-! == by an own __eq__, over data: what it makes on the way is new. -/
namespace Rp
open PySem PySem.Spec PyProof.Rows L2
/-- what the written part says of a class with an own == -/
structure EqK (K : PySem.W.Frag) (C fE : Addr) : Prop where
  eq : PySem.W.findIn K (.ref C) "__eq__" = some (some (.ref fE))
  eqf : PySem.W.isFn K (.ref fE) = true
/-- x == y, x an instance with an own ==, y of a kind that isn't asked first -/
def rEqO (K : PySem.W.Frag) (C : Addr) (sp : Sp) : R2 := fun x y H Q => ∃ a dx fs t, x = .ref a ∧ H a = some (.ins C dx fs) ∧ TyX K H y t ∧ PySem.W.notFirst K C t = true ∧ sp [.ref a, y] H (fun v H' => ∃ b, v = .bl b ∧ Q (.bl b) H') (fun _ _ _ => False)
section
variable {X : Cx} {C fE : Addr} {fdE : FuncData} {k : Nat} {sp : Sp}
theorem op_eqO (Z : EqK X.K C fE) (FE : FnOk X.prog X.w X.K X.mg X.base CX0 k fE fdE ["self", "other"] sp) (bE : L2.Binds X.K fdE ["self", "other"] []) (hr : Room k X.A) : OpR X (compareOp .Eq) (rEqO X.K C sp) := by
  intro pins s σ H x y v u Q I rx ry h
  obtain ⟨a, dx, fs, t, rfl, ha, ty, nf, hsp⟩ := h
  cases rx
  show wpAny (model X.prog X.w) X.A (richCompare .Eq (.ref a) u) (EP X pins σ Q) X.xe s
  obtain ⟨mA, J, _⟩ := ins_get I.hok ha
  obtain ⟨od, J, _⟩ := J.look
  obtain ⟨Pz, KX, pz, _⟩ := kit_of I ry ty
  obtain ⟨m, hF⟩ := I.fr
  refine PySem.W.cmp_K (op := .Eq) (tb := t) hr.units0 hF I.ok.mod.kin J (KX.ty _ _ I.kIn pz) nf Z.eq Z.eqf ?_
  refine wpAny_call (codeAny_mono (FE.run X.A X.stack s H ⟨[.ref a, u], []⟩ [.ref a, u] [.ref a, y] _ _ hr I.env0 (by
    have := bE s [.ref a, u] I.kIn (by rfl)
    simpa using this) (.cons rfl (.cons ry .nil)) hsp) fun r s' hq => ?_)
  cases r with
  | error e => exact (pass0 (X := X)) pins σ H s e s' I hq
  | ok fl =>
    cases fl with
    | ret w =>
      obtain ⟨z, H', I', rz, b, ez, q⟩ := I.after hq
      subst ez
      cases rz
      exact ⟨.bl b, H', I', rfl, q⟩
    | next => exact False.elim hq
    | brk => exact False.elim hq
    | cont => exact False.elim hq
end
def hEqO (K : PySem.W.Frag) (C : Addr) (sp : Sph) : R2h := fun d e A Q => match d with
  | .ptr i => ∃ fs t, A[i]? = some (.ins C fs) ∧ TyD K A e t ∧ PySem.W.notFirst K C t = true ∧ Ask sp [.ptr i, e] A fun r A' => ∃ b, r = .v (.bl b) ∧ Q (.v (.bl b)) A'
  | _ => False
theorem l_eqO {K : PySem.W.Frag} {C : Addr} {sp : Sph} : LR K (rEqO K C (spOf K 2 sp)) (hEqO K C sp) := by
  intro θ H A x y d e Q Qh rd re ra w k
  unfold hEqO at w
  split at w
  · obtain ⟨fs, t, h0, ty, nf, w⟩ := w
    cases rd with
    | ptr hi =>
      obtain ⟨dx, xs, g, _, rf⟩ := ra.ok _ _ _ hi h0
      exact ⟨_, dx, xs, t, rfl, g, ty.ty ra re, nf, rfl, θ, _, A, _, .cons (.ptr hi) (.cons re .nil), ra, w.h, fun θ' H' A' v d e' ra' r q => by
        obtain ⟨b, rfl, q⟩ := q
        cases r
        exact ⟨b, rfl, k _ _ _ _ _ e' ra' (.v _) q⟩⟩
  · exact w.elim
theorem notFirst_self {K : PySem.W.Frag} {C : Addr} : PySem.W.notFirst K C (.ref C) = true := by
  unfold PySem.W.notFirst
  simp
end Rp

/-! len by an own __len__, len(range(n)), over data. -/
namespace Rp
open PySem PySem.Spec PyProof.Rows L2
section
variable {X : Cx} {e : Expr} {x1 x2 : Str} {p1 p2 q1 q2 : Pos} {t : TAh}
/-- len(range(n)) -/
def hLenRng (t : TAh) : TEh := fun σ A Q => t σ A fun ds A1 => match ds with
  | [.v (.int n)] => (0 ≤ n ∧ n < 2 ^ 62) ∧ Q (.v (.int n)) A1
  | _ => False
theorem ph_lenRng (hg : Gl X "len") (hm : X.mg "len" = none) (hg2 : Gl X "range") (hm2 : X.mg "range" = none) (ha : PA X [e] (liftA X.K t)) (he : starEach [e] X.env = (false, eval e X.env) :: starEach [] X.env := by rfl)
    (he2 : starEach [Expr.Call (.Name "range" p2) [e] [] q2] X.env = (false, eval (.Call (.Name "range" p2) [e] [] q2) X.env) :: starEach [] X.env := by rfl)
    : PE X (.Call (.Name "len" p1) [.Call (.Name "range" p2) [e] [] q2] [] q1) (lift X.K (hLenRng t)) :=
  (pe_callB call_lenRng hg hm PySem.boot_len (pa_cons (pe_callTy call_range1 hg2 hm2 PyProof.Rows.boot_range ha (by decide) (by decide) he (by rfl)) pa_nil he2) (by decide) (by decide) he2 (by rfl)).imp fun σ H Q ⟨θ, σh, A, Qh, rs, ra, w, k⟩ => ⟨θ, σh, A, _, rs, ra, w, fun θ1 H1 A1 vs ds e1 ra1 r1 w1 => by
    split at w1
    · rename_i n
      rw [r1.ints1]
      refine ⟨n, rfl, fun p hp => ?_⟩
      obtain ⟨m, rfl⟩ := Int.eq_ofNat_of_zero_le w1.1.1
      refine ⟨p, m, rfl, upd_same, by have := w1.1.2; omega, ?_⟩
      exact k _ _ _ _ _ (e1.trans (.new0 hp)) (ra1.new0 hp) (.v _) w1.2
    · exact w1.elim⟩
end
/-! ### len(x), x's own __len__ -/
def hLenI (C : Addr) (sp : Sph) : List D → OH → KH → Prop
  | [.ptr i], A, Q => ∃ fs, A[i]? = some (.ins C fs) ∧ Ask sp [.ptr i] A fun r A' => ∃ n : Nat, r = .v (.int n) ∧ n < 2 ^ 62 ∧ Q (.v (.int n)) A'
  | _, _, _ => False
theorem l_lenI {K : PySem.W.Frag} {C : Addr} {sp : Sph} : LC K (rLenI C (spOf K 1 sp) fun _ _ _ => False) (hLenI C sp) := by
  intro θ H A xs ds Q Qh r ra w k
  unfold hLenI at w
  split at w
  · obtain ⟨fs, h0, w⟩ := w
    obtain ⟨x, rfl, rx⟩ := r.one
    cases rx with
    | ptr hi =>
      obtain ⟨dx, xs, g, _, rf⟩ := ra.ok _ _ _ hi h0
      refine ⟨_, dx, xs, rfl, g, rfl, θ, _, A, _, .cons (.ptr hi) .nil, ra, w.h, fun θ' H' A' v d e' ra' r q => ?_⟩
      obtain ⟨n, rfl, hn, q⟩ := q
      cases r
      exact ⟨n, rfl, hn, k _ _ _ _ _ e' ra' (.v _) q⟩
  · exact w.elim
end Rp

/-! A tuple by a number, over data. -/
namespace Rp
open PySem PySem.Spec PyProof.Rows L2
def hRepT : R2h
  | .tup ds, .v (.int k), A, Q => (ds ≠ [] ∧ 2 ≤ k ∧ k ≤ 1000 ∧ ds.length ≤ 1000) ∧ Q (.tup (List.replicate k.toNat ds).flatten) A
  | _, _, _, _ => False
theorem l_repT {K : PySem.W.Frag} : LR K (rRepT K) hRepT := by
  intro θ H A x y d e Q Qh rd re ra w k
  unfold hRepT at w
  split at w
  · obtain ⟨⟨h1, h2, h3, h4⟩, q⟩ := w
    cases re
    cases rd with
    | tup hs r =>
      refine ⟨_, _, _, rfl, rfl, hs, fun z => h1 ?_, h2, h3, by rw [r.length]; exact h4, fun p hp => k.tup ra (r.replicate _) q hp⟩
      rw [z] at r
      cases r
      rfl
  · exact w.elim
end Rp

/-! max(list, default=d) of whole numbers, over data. -/
namespace Rp
open PySem PySem.Spec PyProof.Rows L2
/-- the greatest, d of none -/
def mxd (d : Int) : List Int → Int
  | [] => d
  | y :: ys => ys.foldl max y
theorem reads_ints {h : Heap} : ∀ {ns : List Int} {us : List Value}, Vals (ns.map V.int) us → ReadsAll h us (ns.map PyData.int) []
  | [], _, r => by cases r; exact .nil
  | n :: ns, _, r => by
    cases r with
    | cons r1 rr =>
      obtain ⟨t, rfl⟩ := r1
      exact ReadsAll.cons (as := []) (bs := []) (.int _ _) (reads_ints rr)
theorem keeps_blt {M : Model} {h : Heap} (n : String) : PySem.W.Looks M h (keeperOf (.builtin n)) Keeper.machine := by
  show PySem.W.Looks M h (pure Keeper.machine) _
  exact .now
def tMaxD (K : PySem.W.Frag) (ta tk : TA) : TE := fun σ H Q => ta σ H fun vs H1 => tk σ H1 fun zs H2 => ∃ (a : Addr) (ns : List Int) (d : Int), vs = [.ref a] ∧ zs = [.int d] ∧ SqL K H2 a (ns.map V.int) ∧ Q (.int (mxd d ns)) H2
section
variable {X : Cx} {e : Expr} {p pos : Pos} {kws : List Keyword}
theorem pe_maxD {ta tk : TA} (hc : X.calm = true) (hu : X.A.units + 64 < cLine) (hg : Gl X "max") (hm : X.mg "max" = none) (ha : PA X [e] ta) (hkw : PK X kws tk)
    (hall : (backToKw pos (keywordEach kws X.env)).all (·.1.isSome) = true := by rfl) (hks : (backToKw pos (keywordEach kws X.env)).filterMap (·.1) = [Str.ofString "default"] := by rfl)
    (he : starEach [e] X.env = (false, eval e X.env) :: starEach [] X.env := by rfl)
    (hpl : ((backTo pos (starEach [e] X.env)).any (·.1) || (backToKw pos (keywordEach kws X.env)).any (·.1.isNone)) = false := by rfl) :
    PE X (.Call (.Name "max" p) [e] kws pos) (tMaxD X.K ta tk) := by
  refine ⟨fun pins s σ H Q I h => ?_⟩
  refine wpAny_Call_Name_kw (ld_blt I hg hm (show bootBuiltins "max" = some (.builtin "max") by decide +kernel) ?_)
  refine PySem.W.callWith_of (P := fun _ => True) hpl (fun h _ => ⟨_, .inr (.inl rfl), keeps_blt _⟩) (PyProof.Rows.evalArgs_kw2 hall (thn (ha.run pos pins s σ H _ I h) fun us s1 ⟨vs, H1, I1, r1, q1⟩ => ?_) he)
  refine thn (hkw.run pos pins s1 σ H1 _ I1 q1) fun ws s2 ⟨zs, H2, I2, rz, a, ns, d, ev, ez, hq, q⟩ => ⟨True.intro, ?_⟩
  rw [hks]
  subst ev ez
  cases r1 with
  | cons r rr =>
    cases rr
    cases r
    cases rz with
    | cons r2 rr =>
      cases rr
      obtain ⟨tk2, rfl⟩ := r2
      obtain ⟨its, rv, p', hz⟩ := I2.list hq
      have al : PySem.W.AlikeAll (ns.map PyData.int) := by
        refine ⟨fun x hx y hy => ?_, fun x hx => ?_⟩
        · obtain ⟨i, _, rfl⟩ := List.mem_map.mp hx
          obtain ⟨j, _, rfl⟩ := List.mem_map.mp hy
          rfl
        · obtain ⟨i, _, rfl⟩ := List.mem_map.mp hx
          exact fun z => nomatch z
      have dp : PyData.depthAll (ns.map PyData.int) ≤ 0 := (Enc.int (A := [])).all.2.2.1 ns
      refine PySem.W.max_list_default (I2.ok.hd hc) p'.isList (reads_ints rv) al (by omega) (fun e h' tk hk => ?_) fun y ys i v h' tk bs e hi rd hk => ?_
      · have e2 : ns = [] := by cases ns with | nil => rfl | cons a l => cases e
        subst e2
        exact ⟨.int d, H2, I2.kept hk, ⟨_, rfl⟩, q⟩
      · cases ns with
        | nil => cases e
        | cons n ns =>
          injection e with e1 e2
          subst e1 e2
          rw [PySem.W.maxD_ints] at rd
          cases rd
          exact ⟨.int (ns.foldl max n), H2, I2.kept hk, ⟨_, rfl⟩, q⟩
end
def hMaxD (t tk : TAh) : TEh := fun σ A Q => t σ A fun ds A1 => tk σ A1 fun es A2 => match ds, es with
  | [.ptr i], [.v (.int d)] => ∃ ns : List Int, A2[i]? = some (.lst (dI ns)) ∧ Q (.v (.int (mxd d ns))) A2
  | _, _ => False
theorem ph_maxD {X : Cx} {e : Expr} {p pos : Pos} {kws : List Keyword} {t tk : TAh} (hc : X.calm = true) (hu : X.A.units + 64 < cLine) (hg : Gl X "max") (hm : X.mg "max" = none) (ha : PA X [e] (liftA X.K t)) (hkw : PK X kws (liftA X.K tk))
    (hall : (backToKw pos (keywordEach kws X.env)).all (·.1.isSome) = true := by rfl) (hks : (backToKw pos (keywordEach kws X.env)).filterMap (·.1) = [Str.ofString "default"] := by rfl)
    (he : starEach [e] X.env = (false, eval e X.env) :: starEach [] X.env := by rfl)
    (hpl : ((backTo pos (starEach [e] X.env)).any (·.1) || (backToKw pos (keywordEach kws X.env)).any (·.1.isNone)) = false := by rfl) :
    PE X (.Call (.Name "max" p) [e] kws pos) (lift X.K (hMaxD t tk)) :=
  (pe_maxD hc hu hg hm ha hkw hall hks he hpl).imp fun σ H Q ⟨θ, σh, A, Qh, rs, ra, w, k⟩ => ⟨θ, σh, A, _, rs, ra, w, fun θ1 H1 A1 vs ds e1 ra1 r1 w1 => ⟨θ1, σh, A1, _, rs.ext e1, ra1, w1, fun θ2 H2 A2 zs es e2 ra2 r2 w2 => by
    split at w2
    · obtain ⟨ns, h0, q⟩ := w2
      obtain ⟨x, rfl, rx⟩ := (r1.ext e2).one
      cases rx with
      | ptr hi =>
        obtain ⟨xs, g, rr⟩ := ra2.ok _ _ _ hi h0
        have ex : xs = ns.map V.int := RDs.of_scal V.int rr
        rw [ex] at g
        exact ⟨_, ns, _, rfl, r2.ints1, SqL.of g, ((k.ext e1).ext e2).here ra2 (.v _) q⟩
    · exact w2.elim⟩⟩
end Rp

/-! Dicts by keys that are numbers or texts, over data: d[k], d[k] = v, {k: v, ..}. -/
namespace Rp
open PySem PySem.Spec PyProof.Rows L2
def valD (kvs : List (Key × D)) (k : Key) : Option D := (kvs.find? fun kv => decide (kv.1 = k)).map (·.2)
def putDk (kvs : List (Key × D)) (k : Key) (d : D) : List (Key × D) :=
  if (kvs.any fun kv => decide (kv.1 = k)) = true then kvs.map (fun kv => if kv.1 = k then (kv.1, d) else kv) else kvs ++ [(k, d)]
/-- a value as a key -/
def keyOf : D → Option Key
  | .v (.int i) => some (.inl i)
  | .v (.str x) => some (.inr x)
  | _ => none
theorem keyOf_ok {K : PySem.W.Frag} {θ : List Addr} {H : Hp} {v : V} {d : D} {k : Key} (r : RD K θ H v d) (h : keyOf d = some k) : v = kV k := by
  unfold keyOf at h
  split at h
  · cases r; cases h; rfl
  · cases r; cases h; rfl
  · cases h
section
variable {K : PySem.W.Frag} {θ : List Addr} {H : Hp}
theorem RF.valD : ∀ {xs : List (Key × V)} {kvs : List (Key × D)} {k : Key} {d : D}, RF K θ H xs kvs → valD kvs k = some d → ∃ v, valV xs k = some v ∧ RD K θ H v d
  | _, _, _, _, .nil, h => by cases h
  | _, _, k, d, .cons (n := n) (x := x) (d := e) (xs := xs) (ds := ds) r t, h => by
    by_cases c : n = k
    · have e1 : Rp.valD ((n, e) :: ds) k = some e := by unfold Rp.valD; rw [List.find?_cons, decide_eq_true c]; rfl
      rw [e1] at h
      cases h
      exact ⟨x, valV_pos c, r⟩
    · have e1 : Rp.valD ((n, e) :: ds) k = Rp.valD ds k := by unfold Rp.valD; rw [List.find?_cons, decide_eq_false c]
      rw [e1] at h
      obtain ⟨v, h1, h2⟩ := RF.valD t h
      exact ⟨v, by rw [valV_neg (p := (n, x)) c]; exact h1, h2⟩
theorem RF.any : ∀ {xs : List (Key × V)} {kvs : List (Key × D)} {k : Key}, RF K θ H xs kvs → (xs.any fun kv => decide (kv.1 = k)) = kvs.any fun kv => decide (kv.1 = k)
  | _, _, _, .nil => rfl
  | _, _, k, .cons r t => by rw [List.any_cons, List.any_cons, RF.any t]
theorem RF.putMap {v : V} {d : D} (rv : RD K θ H v d) : ∀ {xs : List (Key × V)} {kvs : List (Key × D)} {k : Key}, RF K θ H xs kvs → RF K θ H (xs.map fun kv => if kv.1 = k then (kv.1, v) else kv) (kvs.map fun kv => if kv.1 = k then (kv.1, d) else kv)
  | _, _, _, .nil => .nil
  | _, _, k, .cons (n := n) (x := x) (d := e) r t => by
    rw [List.map_cons, List.map_cons]
    by_cases c : n = k
    · rw [if_pos c, if_pos c]
      exact .cons rv (RF.putMap rv t)
    · rw [if_neg c, if_neg c]
      exact .cons r (RF.putMap rv t)
theorem RF.app : ∀ {xs ys : List (Key × V)} {kvs kws : List (Key × D)}, RF K θ H xs kvs → RF K θ H ys kws → RF K θ H (xs ++ ys) (kvs ++ kws)
  | _, _, _, _, .nil, h => h
  | _, _, _, _, .cons r t, h => .cons r (RF.app t h)
theorem RF.putDk {v : V} {d : D} {k : Key} {xs : List (Key × V)} {kvs : List (Key × D)} (r : RF K θ H xs kvs) (rv : RD K θ H v d) : RF K θ H (putK xs k v) (putDk kvs k d) := by
  unfold putK Rp.putDk
  rw [r.any]
  split
  · exact r.putMap rv
  · exact r.app (.cons rv .nil)
end
/-- d[k] -/
def hGetK : R2h := fun x y A Q => match x with
  | .ptr i => ∃ kvs k d, A[i]? = some (.dK kvs) ∧ keyOf y = some k ∧ valD kvs k = some d ∧ Q d A
  | _ => False
section
variable {X : Cx} {a b o i : Expr} {pos : Pos} {ta tb to ti : TEh}
theorem ph_getK (hu : X.A.units + 64 < cLine) (ha : PE X a (lift X.K ta)) (hb : PE X b (lift X.K tb)) (hs : NoSl b) : PE X (.Subscript a b pos) (lift X.K (hOp hGetK ta tb)) :=
  (pe_dget (by omega) ha hb hs).imp fun σ H Q ⟨θ, σh, A, Qh, rs, ra, w, k⟩ => ⟨θ, σh, A, _, rs, ra, w, fun θ1 H1 A1 x dx e1 ra1 r1 w1 => ⟨θ1, σh, A1, _, rs.ext e1, ra1, w1, fun θ2 H2 A2 y dy e2 ra2 r2 w2 => by
    unfold hGetK at w2
    split at w2
    · obtain ⟨kvs, kk, d, h0, hk, hd, q⟩ := w2
      have r1' := r1.ext e2
      cases r1' with
      | ptr hi =>
        obtain ⟨xs, g, rf⟩ := ra2.ok _ _ _ hi h0
        obtain ⟨v, hv, rv⟩ := rf.valD hd
        rw [keyOf_ok r2 hk]
        exact ⟨_, v, rfl, by rw [← hv]; exact DGet.k g, ((k.ext e1).ext e2).here ra2 rv q⟩
    · exact w2.elim⟩⟩
/-- d[k] = v -/
def hgSetK (to ti : TEh) : TGh := fun d σ A Q => to σ A fun o A1 => ti σ A1 fun i A2 => match o with
  | .ptr n => ∃ kvs k, A2[n]? = some (.dK kvs) ∧ keyOf i = some k ∧ kvs.length ≤ 100000 ∧ PutQ A2 n (.dK (putDk kvs k d)) (Q σ)
  | _ => False
theorem RA.putK {K : PySem.W.Frag} {θ : List Addr} {H : Hp} {A : OH} {i : Nat} {a : Addr} {kvs kvs' : List (Key × D)} {ys : List (Key × V)} (ra : RA K θ H A) (ha : θ[i]? = some a) (ho : A[i]? = some (.dK kvs)) (r : RF K θ H ys kvs') :
    RA K θ (upd H a (.dK ys)) (A.set i (.dK kvs')) ∧ Ext θ H θ (upd H a (.dK ys)) ∧ Put A i (.dK kvs') (A.set i (.dK kvs')) := by
  obtain ⟨xs, h, _⟩ := ra.ok i a _ ha ho
  have mu : Mu (H a) := by rw [h]; exact True.intro
  exact ⟨ra.put ha ho mu ⟨ys, upd_same, r.stab0 (stab_put mu)⟩, .put (List.mem_of_getElem? ha) mu, (List.getElem?_eq_some_iff.mp ho).1, rfl⟩
theorem lg_setK {K : PySem.W.Frag} {to ti : TEh} : LG K (gSub (lift K to) (lift K ti) rSetD) (hgSetK to ti) := fun v σ H Q ⟨θ, d, σh, A, Qh, r, rs, ra, w, k⟩ =>
  ⟨θ, σh, A, _, rs, ra, w, fun θ1 H1 A1 o do_ e1 ra1 r1 w1 => ⟨θ1, σh, A1, _, rs.ext e1, ra1, w1, fun θ2 H2 A2 i di e2 ra2 r2 w2 => by
    split at w2
    · obtain ⟨kvs, kk, h1, h2, hz, w2⟩ := w2
      have r1' := r1.ext e2
      cases r1' with
      | ptr hi =>
        obtain ⟨xs, g, rf⟩ := ra2.ok _ _ _ hi h1
        have rd := (r.ext e1).ext e2
        obtain ⟨q1, q2, q3⟩ := ra2.putK hi h1 (rf.putDk (k := kk) rd)
        have ez : sizeLine = 16777216 := sizeLine_eq
        rw [keyOf_ok r2 h2]
        exact ⟨_, _, rfl, DPut.k g (by rw [rf.length]; omega), k _ _ _ _ _ ((e1.trans e2).trans q2) (((rs.ext e1).ext e2).ext q2) q1 (w2 _ q3)⟩
    · exact w2.elim⟩⟩
theorem pgh_setK (hu : X.A.units + 64 < cLine) (ho : PE X o (lift X.K to)) (hi : PE X i (lift X.K ti)) (ha : ∀ v, assign (.Subscript o i pos) X.env v = (do
      let ov ← holding [v] (eval o X.env)
      let iv ← holding [v, ov] (eval i X.env)
      standAt pos
      holding [v, ov, iv] (setItem ov iv v)
      release [v, ov, iv] []) := by intro _; rfl) : PG X (.Subscript o i pos) (gSub (lift X.K to) (lift X.K ti) rSetD) := pg_sub ho hi (set_dict (by omega)) ha
end
/-! ### {k: v, ..}, the keys texts that are written -/
/-- the pairs' values, from the left -/
def LP (K : PySem.W.Frag) (trs : List (TE × TE)) (ks : List Key) (t : TAh) : Prop := ∀ σ H (Q : List V → Hp → Prop) (Q' : List (V × V) → Hp → Prop), liftA K t σ H Q → (∀ vs H', vs.length = ks.length → Q vs H' → Q' ((ks.zip vs).map fun kv => (kV kv.1, kv.2)) H') → tPairs trs σ H Q'
theorem lp_nil {K : PySem.W.Frag} : LP K [] [] hNil := fun σ H Q Q' ⟨θ, σh, A, Qh, rs, ra, w, k⟩ f => f [] H rfl (k _ _ _ _ _ (.refl _ _) ra .nil w)
theorem lp_cons {K : PySem.W.Frag} {trs : List (TE × TE)} {ks : List Key} {t : TAh} {te : TEh} {x : Str} (h : LP K trs ks t) : LP K ((tC (.str x), lift K te) :: trs) (.inr x :: ks) (hCons te t) := fun σ H Q Q' ⟨θ, σh, A, Qh, rs, ra, w, k⟩ f =>
  ⟨θ, σh, A, _, rs, ra, w, fun θ1 H1 A1 v d e1 ra1 r1 w1 => h σ H1 (fun vs H' => Q (v :: vs) H') _ ⟨θ1, σh, A1, _, rs.ext e1, ra1, w1, fun θ2 H2 A2 vs ds e2 ra2 r2 w2 => k _ _ _ _ _ (e1.trans e2) ra2 (.cons (r1.ext e2) r2) w2⟩
    fun vs H' h1 q => f (v :: vs) H' (by rw [List.length_cons, List.length_cons, h1]) q⟩
theorem RF.zip {K : PySem.W.Frag} {θ : List Addr} {H : Hp} : ∀ {ks : List Key} {vs : List V} {ds : List D}, RDs K θ H vs ds → RF K θ H (ks.zip vs) (ks.zip ds)
  | [], _, _, _ => by rw [List.zip_nil_left, List.zip_nil_left]; exact .nil
  | _ :: _, _, _, .nil => .nil
  | k :: ks, _, _, .cons r t => .cons r (RF.zip t)
theorem RA.intoK {K : PySem.W.Frag} {θ : List Addr} {H : Hp} {A : OH} {a : Addr} {xs : List (Key × V)} {ds : List (Key × D)} (ra : RA K θ H A) (na : a ∉ θ) (h : H a = some (.dK xs)) (r : RF K θ H xs ds) : RA K (θ ++ [a]) H (A ++ [.dK ds]) := by
  refine ⟨by rw [List.length_append, List.length_append, ra.len]; rfl, ?_, fun i b o h1 h2 => ?_⟩
  · rw [List.nodup_append]
    exact ⟨ra.nd, by simp, fun x hx y hy => by rw [List.mem_singleton.mp hy]; exact fun z => na (by rw [← z]; exact hx)⟩
  · by_cases hi : i < θ.length
    · rw [List.getElem?_append_left hi] at h1
      rw [List.getElem?_append_left (by rw [← ra.len]; exact hi)] at h2
      exact (ra.ok i b o h1 h2).stab (.refl H) rfl fun _ e => e
    · rw [List.getElem?_append_right (by omega)] at h1
      rw [List.getElem?_append_right (by rw [← ra.len]; omega)] at h2
      have e : i - θ.length = 0 := by
        have := (List.getElem?_eq_some_iff.mp h1).1
        simp at this
        omega
      rw [e] at h1
      rw [← ra.len, e] at h2
      simp at h1 h2
      subst h1 h2
      exact ⟨xs, h, r.stab (.refl H)⟩
def hDisp (ks : List Key) (t : TAh) : TEh := fun σ A Q => t σ A fun ds A1 => NewQ A1 (.dK (ks.zip ds)) Q
theorem ph_disp {X : Cx} {pos : Pos} {keys : List (Option Expr)} {values : List Expr} {trs : List (TE × TE)} {ks : List Key} {t : TAh} (h : PPs X pos keys values trs) (lp : LP X.K trs ks t) (hall : keys.all (·.isSome) = true) (hl : keys.length = values.length) (h0 : keys ≠ [])
    (h15 : keys.length ≤ 15) (hk : ks.length ≤ 15) (hm : ∀ vs : List V, vs.length = ks.length → mergeK [] (ks.zip vs) = ks.zip vs) : PE X (.Dict keys values pos) (lift X.K (hDisp ks t)) :=
  (pe_disp h hall hl h0 h15).imp fun σ H Q ⟨θ, σh, A, Qh, rs, ra, w, k⟩ p hp => by
    have np : p ∉ θ := fun z => by
      obtain ⟨u, hu, _⟩ := ra.mut z
      rw [hp] at hu
      cases hu
    refine lp σ _ (fun vs H' => H' p = some (.dK []) ∧ Q (.ref p) (upd H' p (.dK (ks.zip vs)))) _ ⟨θ, σh, A, _, rs.ext (.new0 hp), ra.new0 hp, w, fun θ1 H1 A1 vs ds e1 ra1 r1 w1 => ?_⟩ fun vs H' h1 q => ?_
    · have h1 : H1 p = some (.dK []) := e1.keep np upd_same fun _ z => nomatch z
      have np1 : p ∉ θ1 := fun z => by
        rcases e1.new p z with q | q
        · exact np q
        · rw [upd_same] at q; cases q
      have mu : Mu (H1 p) := by rw [h1]; exact True.intro
      refine ⟨h1, ?_⟩
      have e2 : Ext θ H θ1 (upd H1 p (.dK (ks.zip vs))) := ((Ext.new0 hp).trans e1).off hp mu
      have e3 : Ext θ H (θ1 ++ [p]) (upd H1 p (.dK (ks.zip vs))) := ⟨let ⟨t, e⟩ := e2.pre; ⟨t ++ [p], by rw [e, List.append_assoc]⟩, fun a ha => by
        rcases List.mem_append.mp ha with q | q
        · exact e2.new a q
        · rw [List.mem_singleton.mp q]; exact .inr hp, e2.stay, e2.stab⟩
      have ra2 := (ra1.off np1 mu (u := .dK (ks.zip vs))).intoK np1 upd_same (RF.zip (r1.stab0 (stab_put mu)))
      exact k _ _ _ _ _ e3 ra2 (.ptr (by rw [← ra1.len]; simp)) (w1 _ _ ⟨rfl, rfl⟩)
    · refine ⟨q.1, ks.zip vs, rfl, ?_, ?_⟩
      · rw [List.length_zip]; omega
      · rw [hm vs h1]; exact q.2
end Rp

/-! max of a tuple of whole numbers, over data. -/
namespace Rp
open PySem PySem.Spec PyProof.Rows L2
def rMaxT (K : PySem.W.Frag) : List V → Hp → VK → Prop := fun vs H Q => ∃ (a : Addr) (n : Int) (ns : List Int), vs = [.ref a] ∧ SqT K H a ((n :: ns).map V.int) ∧ Q (.int (ns.foldl max n)) H
theorem call_maxT {X : Cx} (hc : X.calm = true) (hu : X.A.units + 64 < cLine) : CallR X (.builtin "max") (rMaxT X.K) := by
  intro pins s σ H vs us Q I r h
  obtain ⟨a, n, ns, rfl, hs, q⟩ := h
  cases r with
  | cons r1 rr =>
    cases rr
    cases r1
    obtain ⟨its, rv, p', hz⟩ := I.tuple hs
    have al : PySem.W.AlikeAll ((n :: ns).map PyData.int) := by
      refine ⟨fun x hx y hy => ?_, fun x hx => ?_⟩
      · obtain ⟨i, _, rfl⟩ := List.mem_map.mp hx
        obtain ⟨j, _, rfl⟩ := List.mem_map.mp hy
        rfl
      · obtain ⟨i, _, rfl⟩ := List.mem_map.mp hx
        exact fun z => nomatch z
    have dp : PyData.depthAll ((n :: ns).map PyData.int) ≤ 0 := (Enc.int (A := [])).all.2.2.1 (n :: ns)
    refine PySem.W.max_tuple_data (x := .int n) (xs := ns.map PyData.int) (I.ok.hd hc) p' (reads_ints rv) al (by rw [List.map_cons] at dp; omega) fun i v h' tk bs hi rd hk => ?_
    rw [PySem.W.maxD_ints] at rd
    cases rd
    exact ⟨.int (ns.foldl max n), H, I.kept hk, ⟨_, rfl⟩, q⟩
def hMaxT : List D → OH → KH → Prop
  | [.tup ds], A, Q => ∃ (n : Int) (ns : List Int), ds = dI (n :: ns) ∧ Q (.v (.int (ns.foldl max n))) A
  | _, _, _ => False
theorem l_maxT {K : PySem.W.Frag} : LC K (rMaxT K) hMaxT := by
  intro θ H A xs ds Q Qh r ra w k
  unfold hMaxT at w
  split at w
  · obtain ⟨n, ns, rfl, q⟩ := w
    obtain ⟨x, rfl, rx⟩ := r.one
    cases rx with
    | tup hs r' =>
      have ex := RDs.of_scal V.int (xs := n :: ns) r'
      rw [ex] at hs
      exact ⟨_, n, ns, rfl, hs, k.here ra (.v _) q⟩
  · exact w.elim
end Rp

/-! The third layer: what stays (with lengths), loops by the slots that change, comprehensions by a map. -/
namespace Rp
open PySem PySem.Spec PyProof.Rows L2
theorem New.len {A A' : OH} {k : Nat} {o : O} (n : New A k o A') : A'.length = A.length + 1 := by rw [n.eq', List.length_append]; rfl
theorem Put.len {A A' : OH} {k : Nat} {o : O} (n : Put A k o A') : A'.length = A.length := by rw [n.eq', List.length_set]
structure Kq (M : List Nat) (A A' : OH) : Prop where
  kp : Kp M A A'
  len : A.length ≤ A'.length
section
variable {M N : List Nat} {A B C A1 A2 : OH} {k i : Nat} {o : O}
theorem Kq.refl (M : List Nat) (A : OH) : Kq M A A := ⟨.refl _ _, Nat.le_refl _⟩
theorem Kq.trans (a : Kq M A B) (b : Kq M B C) : Kq M A C := ⟨a.kp.trans b.kp, Nat.le_trans a.len b.len⟩
theorem Kq.mono (a : Kq M A B) (h : ∀ i ∈ M, i ∈ N) : Kq N A B := ⟨a.kp.mono h, a.len⟩
theorem Kq.any (a : Kq [] A B) : Kq M A B := a.mono fun _ z => nomatch z
theorem Kq.trans0 (a : Kq M A B) (b : Kq [] B C) : Kq M A C := a.trans b.any
theorem Kq.old (q : Kq M A B) (h : i ∉ M) (e : A[i]? = some o) : B[i]? = some o := q.kp i o h e
theorem Kq.old0 (q : Kq [] A B) (e : A[i]? = some o) : B[i]? = some o := q.kp i o (fun z => nomatch z) e
theorem Kq.new (q : Kq M A A1) (n : New A1 k o A2) : Kq M A A2 := ⟨q.kp.new n, by have := n.len; have := q.len; omega⟩
theorem Kq.putM (q : Kq M A A1) (p : Put A1 k o A2) (h : k ∈ M) : Kq M A A2 := ⟨fun i u nm e => p.old (fun z => nm (by rw [z]; exact h)) (q.kp i u nm e), by have := p.len; have := q.len; omega⟩
/-- one's own object is written -/
theorem Kq.putO (q : Kq M A A1) (p : Put A1 k o A2) (h : A.length ≤ k) : Kq M A A2 := ⟨fun i u nm e => p.old (by have := lt_of_at e; omega) (q.kp i u nm e), by have := p.len; have := q.len; omega⟩
theorem ni0 : i ∉ ([] : List Nat) := fun z => nomatch z
theorem ni1 {a : Nat} (h : i ≠ a) : i ∉ [a] := fun z => h (List.mem_singleton.mp z)
theorem ni2 {a b : Nat} (h : i ≠ a) (h' : i ≠ b) : i ∉ [a, b] := fun z => by
  simp only [List.mem_cons, List.not_mem_nil, or_false] at z
  rcases z with z | z
  · exact h z
  · exact h' z
theorem ni3 {a b c : Nat} (h : i ≠ a) (h' : i ≠ b) (h'' : i ≠ c) : i ∉ [a, b, c] := fun z => by
  simp only [List.mem_cons, List.not_mem_nil, or_false] at z
  rcases z with z | z | z
  · exact h z
  · exact h' z
  · exact h'' z
end
/-! ### tests -/
theorem Br.yes_of {b : Bool} {p q : Prop} (e : b = true) (h : p) : Br b p q := ⟨fun _ => h, fun z => by rw [e] at z; cases z⟩
theorem Br.no_of {b : Bool} {p q : Prop} (e : b = false) (h : q) : Br b p q := ⟨fun z => by (rw [e] at z; cases z), fun _ => h⟩
theorem Br.dt {c : Prop} [Decidable c] {p q : Prop} (e : c) (h : p) : Br (decide c) p q := Br.yes_of (decide_eq_true e) h
theorem Br.df {c : Prop} [Decidable c] {p q : Prop} (e : ¬ c) (h : q) : Br (decide c) p q := Br.no_of (decide_eq_false e) h
theorem Br.nt {c : Prop} [Decidable c] {p q : Prop} (e : ¬ c) (h : p) : Br (!decide c) p q := Br.yes_of (by rw [decide_eq_false e]; rfl) h
theorem Br.nf {c : Prop} [Decidable c] {p q : Prop} (e : c) (h : q) : Br (!decide c) p q := Br.no_of (by rw [decide_eq_true e]; rfl) h
/-! ### loops -/
abbrev StQ := SH → OH → Prop
structure ForQ (src : Src) (F : StQ → D → StQ) (N : StQ) (σ : SH) (A : OH) : Prop where
  h : ∃ Pv : Nat → StQ, Pv 0 σ A ∧ (∀ i σ A, i ≤ src.n → Pv i σ A → src.live A) ∧ (∀ i d σ A, i < src.n → src.item i = some d → Pv i σ A → F (Pv (i + 1)) d σ A) ∧ ∀ σ A, Pv src.n σ A → N σ A
def jFor (ti : TIh) (g : TGh) (tb : TSh) : TSh := fun D σ A => ti σ A fun src A1 => ForQ src (fun P d σ A => g d σ A fun σ2 A2 => tb { D with nx := P, ct := P, bk := D.nx } σ2 A2) D.nx σ A1
theorem jFor_eq (ti : TIh) (g : TGh) (tb : TSh) : jFor ti g tb = hFor ti g tb := by
  funext D σ A
  unfold jFor hFor
  congr 1
  funext src A1
  exact propext ⟨fun h => h.h, fun h => ⟨h⟩⟩
theorem psj_for {X : Cx} {tg iter : Expr} {body : List Stmt} {pos : Pos} {ti : TIh} {g : TG} {gh : TGh} {tb : TSh} (lg : LG X.K g gh) (hp : PassesOwn (model X.prog X.w) X.A X.env X.xe) (hc : X.calm = true) (hi : PI X tg iter (liftI X.K ti)) (hg : PG X tg g) (hb : PSs X body (liftS X.K tb))
    (hs : ∀ x, foldedSetIterable iter X.env x = pure x := by intro _; rfl) : PS X (.For tg iter body [] pos) (liftS X.K (jFor ti gh tb)) := by
  rw [jFor_eq]
  exact psh_for lg hp hc hi hg hb hs
structure WhileQ (F : StQ → StQ) (σ : SH) (A : OH) : Prop where
  h : ∃ W : Nat → StQ, (∃ m, W m σ A) ∧ ∀ m σ A, W m σ A → F (fun σ' A' => ∃ m', m' < m ∧ W m' σ' A') σ A
def jWhile (c : TTh) (tb : TSh) : TSh := fun D σ A => WhileQ (fun P σ A => c σ A fun b A1 => Br b (tb { D with nx := P, ct := P, bk := D.nx } σ A1) (D.nx σ A1)) σ A
theorem jWhile_eq (c : TTh) (tb : TSh) : jWhile c tb = hWhile c tb := by
  funext D σ A
  exact propext ⟨fun h => h.h, fun h => ⟨h⟩⟩
theorem psj_while {X : Cx} {pos : Pos} {c : Expr} {body : List Stmt} {tc : TTh} {tb : TSh} (hp : PassesOwn (model X.prog X.w) X.A X.env X.xe) (hc : PT X c (liftT X.K tc)) (hb : PSs X body (liftS X.K tb)) : PS X (.While c body [] pos) (liftS X.K (jWhile tc tb)) := by
  rw [jWhile_eq]
  exact psh_while hp hc hb
structure LcQ (src : Src) (F : (D → OH → Prop) → (OH → Prop) → D → OH → Prop) (Q : KH) (A : OH) : Prop where
  h : ∃ Pv : Nat → List D → OH → Prop, src.n ≤ 100000 ∧ Pv 0 [] A ∧ (∀ i acc A, i ≤ src.n → Pv i acc A → src.live A) ∧
    (∀ i d acc A, i < src.n → src.item i = some d → Pv i acc A → F (fun e A4 => Pv (i + 1) (acc ++ [e]) A4) (Pv (i + 1) acc) d A) ∧ ∀ acc A, Pv src.n acc A → NewQ A (.lst acc) Q
def jLc (ti : TIh) (g : TGh) (tt : TTh) (te : TEh) (vs : List Nat) : TEh := fun σ A Q => ti σ A fun src A1 => LcQ src (fun kt kf d A => g d (wipeH σ vs) A fun σ2 A2 => tt σ2 A2 fun b A3 => Br b (te σ2 A3 kt) (kf A3)) Q A1
theorem jLc_eq (ti : TIh) (g : TGh) (tt : TTh) (te : TEh) (vs : List Nat) : jLc ti g tt te vs = hLc ti g tt te vs := by
  funext σ A Q
  unfold jLc hLc
  congr 1
  funext src A1
  exact propext ⟨fun h => h.h, fun h => ⟨h⟩⟩
section
variable {X : Cx} {pos : Pos} {tg elt iter : Expr} {ifs : List Expr} {scope : Scope} {own : List (Str × Nat)}
theorem pj_lc {ti : TIh} {g : TG} {gh : TGh} {tt : TTh} {te : TEh} (lg : LG X.K g gh) (kp : Keeps (own.map (·.2)) g) (hc : X.calm = true) (hN : X.N.Nodup) (hi : PI X tg iter (liftI X.K ti)) (ok : BlkOk X.N X.env.scope scope own)
    (hg : ∀ (s : Shared) (H : Hp) (C : Addr) (cl : List (Str × Addr)) (fp : List Addr), PG (X.blk s H scope (compEnvC scope cl C X.env) fp) tg g) (ht : ∀ (s : Shared) (H : Hp) (C : Addr) (cl : List (Str × Addr)) (fp : List Addr), PTs (X.blk s H scope (compEnvC scope cl C X.env) fp) ifs (liftT X.K tt))
    (he : ∀ (s : Shared) (H : Hp) (C : Addr) (cl : List (Str × Addr)) (fp : List Addr), PE (X.blk s H scope (compEnvC scope cl C X.env) fp) elt (lift X.K te)) (hs : ∀ x, foldedSetIterable iter X.env x = pure x := by intro _; rfl) :
    PE X (.ListComp elt [⟨tg, iter, ifs, 0⟩] scope pos) (lift X.K (jLc ti gh tt te (own.map (·.2)))) := by
  rw [jLc_eq]
  exact ph_lc lg kp hc hN hi ok hg ht he hs
theorem psj_setLc {i : Nat} {y : Str} {py : Pos} {spos : Pos} {ti : TIh} {g : TG} {gh : TGh} {tt : TTh} {te : TEh} (lg : LG X.K g gh) (kp : Keeps (own.map (·.2)) g) (hc : X.calm = true) (hN : X.N.Nodup) (hy : X.N[i]? = some y) (hyl : X.env.scope.names.lookup y = some .local)
    (hsw : swapsWith (.ListComp elt [⟨tg, iter, ifs, 0⟩] scope pos) (some (.Name y py)) spos.line X.env = pure true) (hi : PI X tg iter (liftI X.K ti)) (ok : BlkOk X.N X.env.scope scope own)
    (hg : ∀ (s : Shared) (H : Hp) (C : Addr) (cl : List (Str × Addr)) (fp : List Addr), PG (X.blk s H scope (compEnvC scope cl C X.env) fp) tg g) (ht : ∀ (s : Shared) (H : Hp) (C : Addr) (cl : List (Str × Addr)) (fp : List Addr), PTs (X.blk s H scope (compEnvC scope cl C X.env) fp) ifs (liftT X.K tt))
    (he : ∀ (s : Shared) (H : Hp) (C : Addr) (cl : List (Str × Addr)) (fp : List Addr), PE (X.blk s H scope (compEnvC scope cl C X.env) fp) elt (lift X.K te)) (hs : ∀ x, foldedSetIterable iter X.env x = pure x := by intro _; rfl) :
    PS X (.Assign [.Name y py] (.ListComp elt [⟨tg, iter, ifs, 0⟩] scope pos) spos) (liftS X.K (hAsg (jLc ti gh tt te (own.map (·.2))) (hgName i))) := by
  rw [jLc_eq]
  exact psh_setLc lg kp hc hN hy hyl hsw hi ok hg ht he hs
end
/-- the end of a turn -/
@[irreducible] def Lf (p : Prop) : Prop := p
theorem lf_eq (p : Prop) : Lf p = p := by unfold Lf; rfl
theorem Lf.mk {p : Prop} (h : p) : Lf p := by rw [lf_eq]; exact h
theorem Lf.h {p : Prop} (h : Lf p) : p := by rw [lf_eq] at h; exact h
/-! ### by the slots that change -/
section
variable {src : Src} {F : StQ → D → StQ} {N : StQ} {σ : SH} {A : OH} {G : StQ → StQ}
theorem ForQ.s0 (J : Nat → OH → Prop) (h0 : σ = σ ∧ J 0  A) (hl : ∀ i  A, i ≤ src.n → J i  A → src.live A)
    (hs : ∀ i dd  A, i < src.n → src.item i = some dd → J i  A → F (fun σ' A' => Lf (σ' = σ ∧ J (i + 1)  A')) dd σ A)
    (hn : ∀  A, J src.n  A → N σ A) : ForQ src F N σ A :=
  ⟨fun i σ' A' => Lf (σ' = σ ∧ J i  A'), by
    obtain ⟨e, j⟩ := h0
    refine ⟨.mk ⟨e.symm, j⟩, fun i σ' A' hi h => (let ⟨e, j⟩ := h.h; hl i  A' hi j), fun i dd σ' A' hi hd h => ?_, fun σ' A' h => ?_⟩
    · obtain ⟨e, j⟩ := h.h; rw [e]; exact hs i dd  A' hi hd j
    · obtain ⟨e, j⟩ := h.h; rw [e]; exact hn  A' j⟩
theorem WhileQ.s0 (J : Nat → OH → Prop) (h0 : ∃ m, σ = σ ∧ J m  A)
    (hs : ∀ m  A, J m  A → G (fun σ' A' => Lf (∃ m', m' < m ∧ σ' = σ ∧ J m'  A')) σ A) : WhileQ G σ A :=
  ⟨fun m σ' A' => σ' = σ ∧ J m  A', by
    obtain ⟨m, e, j⟩ := h0
    refine ⟨⟨m, e.symm, j⟩, fun m σ' A' ⟨e, j⟩ => ?_⟩
    rw [e]
    have hq := hs m  A' j
    simp only [lf_eq] at hq
    exact hq⟩
theorem ForQ.s1 (p0 : Nat) (J : Nat → Option D → OH → Prop) (h0 : ∃ x0, (σ.set p0 x0) = σ ∧ J 0 x0 A) (hl : ∀ i x0 A, i ≤ src.n → J i x0 A → src.live A)
    (hs : ∀ i dd x0 A, i < src.n → src.item i = some dd → J i x0 A → F (fun σ' A' => Lf (∃ x0', σ' = (σ.set p0 x0') ∧ J (i + 1) x0' A')) dd (σ.set p0 x0) A)
    (hn : ∀ x0 A, J src.n x0 A → N (σ.set p0 x0) A) : ForQ src F N σ A :=
  ⟨fun i σ' A' => Lf (∃ x0', σ' = (σ.set p0 x0') ∧ J i x0' A'), by
    obtain ⟨x0, e, j⟩ := h0
    refine ⟨.mk ⟨x0, e.symm, j⟩, fun i σ' A' hi h => (let ⟨x0, e, j⟩ := h.h; hl i x0 A' hi j), fun i dd σ' A' hi hd h => ?_, fun σ' A' h => ?_⟩
    · obtain ⟨x0, e, j⟩ := h.h; rw [e]; exact hs i dd x0 A' hi hd j
    · obtain ⟨x0, e, j⟩ := h.h; rw [e]; exact hn x0 A' j⟩
theorem WhileQ.s1 (p0 : Nat) (J : Nat → Option D → OH → Prop) (h0 : ∃ m, ∃ x0, (σ.set p0 x0) = σ ∧ J m x0 A)
    (hs : ∀ m x0 A, J m x0 A → G (fun σ' A' => Lf (∃ m', m' < m ∧ ∃ x0', σ' = (σ.set p0 x0') ∧ J m' x0' A')) (σ.set p0 x0) A) : WhileQ G σ A :=
  ⟨fun m σ' A' => ∃ x0', σ' = (σ.set p0 x0') ∧ J m x0' A', by
    obtain ⟨m, x0, e, j⟩ := h0
    refine ⟨⟨m, x0, e.symm, j⟩, fun m σ' A' ⟨x0, e, j⟩ => ?_⟩
    rw [e]
    have hq := hs m x0 A' j
    simp only [lf_eq] at hq
    exact hq⟩
theorem ForQ.s2 (p0 p1 : Nat) (J : Nat → Option D → Option D → OH → Prop) (h0 : ∃ x0 x1, ((σ.set p0 x0).set p1 x1) = σ ∧ J 0 x0 x1 A) (hl : ∀ i x0 x1 A, i ≤ src.n → J i x0 x1 A → src.live A)
    (hs : ∀ i dd x0 x1 A, i < src.n → src.item i = some dd → J i x0 x1 A → F (fun σ' A' => Lf (∃ x0' x1', σ' = ((σ.set p0 x0').set p1 x1') ∧ J (i + 1) x0' x1' A')) dd ((σ.set p0 x0).set p1 x1) A)
    (hn : ∀ x0 x1 A, J src.n x0 x1 A → N ((σ.set p0 x0).set p1 x1) A) : ForQ src F N σ A :=
  ⟨fun i σ' A' => Lf (∃ x0' x1', σ' = ((σ.set p0 x0').set p1 x1') ∧ J i x0' x1' A'), by
    obtain ⟨x0, x1, e, j⟩ := h0
    refine ⟨.mk ⟨x0, x1, e.symm, j⟩, fun i σ' A' hi h => (let ⟨x0, x1, e, j⟩ := h.h; hl i x0 x1 A' hi j), fun i dd σ' A' hi hd h => ?_, fun σ' A' h => ?_⟩
    · obtain ⟨x0, x1, e, j⟩ := h.h; rw [e]; exact hs i dd x0 x1 A' hi hd j
    · obtain ⟨x0, x1, e, j⟩ := h.h; rw [e]; exact hn x0 x1 A' j⟩
theorem WhileQ.s2 (p0 p1 : Nat) (J : Nat → Option D → Option D → OH → Prop) (h0 : ∃ m, ∃ x0 x1, ((σ.set p0 x0).set p1 x1) = σ ∧ J m x0 x1 A)
    (hs : ∀ m x0 x1 A, J m x0 x1 A → G (fun σ' A' => Lf (∃ m', m' < m ∧ ∃ x0' x1', σ' = ((σ.set p0 x0').set p1 x1') ∧ J m' x0' x1' A')) ((σ.set p0 x0).set p1 x1) A) : WhileQ G σ A :=
  ⟨fun m σ' A' => ∃ x0' x1', σ' = ((σ.set p0 x0').set p1 x1') ∧ J m x0' x1' A', by
    obtain ⟨m, x0, x1, e, j⟩ := h0
    refine ⟨⟨m, x0, x1, e.symm, j⟩, fun m σ' A' ⟨x0, x1, e, j⟩ => ?_⟩
    rw [e]
    have hq := hs m x0 x1 A' j
    simp only [lf_eq] at hq
    exact hq⟩
theorem ForQ.s3 (p0 p1 p2 : Nat) (J : Nat → Option D → Option D → Option D → OH → Prop) (h0 : ∃ x0 x1 x2, (((σ.set p0 x0).set p1 x1).set p2 x2) = σ ∧ J 0 x0 x1 x2 A) (hl : ∀ i x0 x1 x2 A, i ≤ src.n → J i x0 x1 x2 A → src.live A)
    (hs : ∀ i dd x0 x1 x2 A, i < src.n → src.item i = some dd → J i x0 x1 x2 A → F (fun σ' A' => Lf (∃ x0' x1' x2', σ' = (((σ.set p0 x0').set p1 x1').set p2 x2') ∧ J (i + 1) x0' x1' x2' A')) dd (((σ.set p0 x0).set p1 x1).set p2 x2) A)
    (hn : ∀ x0 x1 x2 A, J src.n x0 x1 x2 A → N (((σ.set p0 x0).set p1 x1).set p2 x2) A) : ForQ src F N σ A :=
  ⟨fun i σ' A' => Lf (∃ x0' x1' x2', σ' = (((σ.set p0 x0').set p1 x1').set p2 x2') ∧ J i x0' x1' x2' A'), by
    obtain ⟨x0, x1, x2, e, j⟩ := h0
    refine ⟨.mk ⟨x0, x1, x2, e.symm, j⟩, fun i σ' A' hi h => (let ⟨x0, x1, x2, e, j⟩ := h.h; hl i x0 x1 x2 A' hi j), fun i dd σ' A' hi hd h => ?_, fun σ' A' h => ?_⟩
    · obtain ⟨x0, x1, x2, e, j⟩ := h.h; rw [e]; exact hs i dd x0 x1 x2 A' hi hd j
    · obtain ⟨x0, x1, x2, e, j⟩ := h.h; rw [e]; exact hn x0 x1 x2 A' j⟩
theorem WhileQ.s3 (p0 p1 p2 : Nat) (J : Nat → Option D → Option D → Option D → OH → Prop) (h0 : ∃ m, ∃ x0 x1 x2, (((σ.set p0 x0).set p1 x1).set p2 x2) = σ ∧ J m x0 x1 x2 A)
    (hs : ∀ m x0 x1 x2 A, J m x0 x1 x2 A → G (fun σ' A' => Lf (∃ m', m' < m ∧ ∃ x0' x1' x2', σ' = (((σ.set p0 x0').set p1 x1').set p2 x2') ∧ J m' x0' x1' x2' A')) (((σ.set p0 x0).set p1 x1).set p2 x2) A) : WhileQ G σ A :=
  ⟨fun m σ' A' => ∃ x0' x1' x2', σ' = (((σ.set p0 x0').set p1 x1').set p2 x2') ∧ J m x0' x1' x2' A', by
    obtain ⟨m, x0, x1, x2, e, j⟩ := h0
    refine ⟨⟨m, x0, x1, x2, e.symm, j⟩, fun m σ' A' ⟨x0, x1, x2, e, j⟩ => ?_⟩
    rw [e]
    have hq := hs m x0 x1 x2 A' j
    simp only [lf_eq] at hq
    exact hq⟩
theorem ForQ.s4 (p0 p1 p2 p3 : Nat) (J : Nat → Option D → Option D → Option D → Option D → OH → Prop) (h0 : ∃ x0 x1 x2 x3, ((((σ.set p0 x0).set p1 x1).set p2 x2).set p3 x3) = σ ∧ J 0 x0 x1 x2 x3 A) (hl : ∀ i x0 x1 x2 x3 A, i ≤ src.n → J i x0 x1 x2 x3 A → src.live A)
    (hs : ∀ i dd x0 x1 x2 x3 A, i < src.n → src.item i = some dd → J i x0 x1 x2 x3 A → F (fun σ' A' => Lf (∃ x0' x1' x2' x3', σ' = ((((σ.set p0 x0').set p1 x1').set p2 x2').set p3 x3') ∧ J (i + 1) x0' x1' x2' x3' A')) dd ((((σ.set p0 x0).set p1 x1).set p2 x2).set p3 x3) A)
    (hn : ∀ x0 x1 x2 x3 A, J src.n x0 x1 x2 x3 A → N ((((σ.set p0 x0).set p1 x1).set p2 x2).set p3 x3) A) : ForQ src F N σ A :=
  ⟨fun i σ' A' => Lf (∃ x0' x1' x2' x3', σ' = ((((σ.set p0 x0').set p1 x1').set p2 x2').set p3 x3') ∧ J i x0' x1' x2' x3' A'), by
    obtain ⟨x0, x1, x2, x3, e, j⟩ := h0
    refine ⟨.mk ⟨x0, x1, x2, x3, e.symm, j⟩, fun i σ' A' hi h => (let ⟨x0, x1, x2, x3, e, j⟩ := h.h; hl i x0 x1 x2 x3 A' hi j), fun i dd σ' A' hi hd h => ?_, fun σ' A' h => ?_⟩
    · obtain ⟨x0, x1, x2, x3, e, j⟩ := h.h; rw [e]; exact hs i dd x0 x1 x2 x3 A' hi hd j
    · obtain ⟨x0, x1, x2, x3, e, j⟩ := h.h; rw [e]; exact hn x0 x1 x2 x3 A' j⟩
theorem WhileQ.s4 (p0 p1 p2 p3 : Nat) (J : Nat → Option D → Option D → Option D → Option D → OH → Prop) (h0 : ∃ m, ∃ x0 x1 x2 x3, ((((σ.set p0 x0).set p1 x1).set p2 x2).set p3 x3) = σ ∧ J m x0 x1 x2 x3 A)
    (hs : ∀ m x0 x1 x2 x3 A, J m x0 x1 x2 x3 A → G (fun σ' A' => Lf (∃ m', m' < m ∧ ∃ x0' x1' x2' x3', σ' = ((((σ.set p0 x0').set p1 x1').set p2 x2').set p3 x3') ∧ J m' x0' x1' x2' x3' A')) ((((σ.set p0 x0).set p1 x1).set p2 x2).set p3 x3) A) : WhileQ G σ A :=
  ⟨fun m σ' A' => ∃ x0' x1' x2' x3', σ' = ((((σ.set p0 x0').set p1 x1').set p2 x2').set p3 x3') ∧ J m x0' x1' x2' x3' A', by
    obtain ⟨m, x0, x1, x2, x3, e, j⟩ := h0
    refine ⟨⟨m, x0, x1, x2, x3, e.symm, j⟩, fun m σ' A' ⟨x0, x1, x2, x3, e, j⟩ => ?_⟩
    rw [e]
    have hq := hs m x0 x1 x2 x3 A' j
    simp only [lf_eq] at hq
    exact hq⟩
theorem ForQ.s5 (p0 p1 p2 p3 p4 : Nat) (J : Nat → Option D → Option D → Option D → Option D → Option D → OH → Prop) (h0 : ∃ x0 x1 x2 x3 x4, (((((σ.set p0 x0).set p1 x1).set p2 x2).set p3 x3).set p4 x4) = σ ∧ J 0 x0 x1 x2 x3 x4 A) (hl : ∀ i x0 x1 x2 x3 x4 A, i ≤ src.n → J i x0 x1 x2 x3 x4 A → src.live A)
    (hs : ∀ i dd x0 x1 x2 x3 x4 A, i < src.n → src.item i = some dd → J i x0 x1 x2 x3 x4 A → F (fun σ' A' => Lf (∃ x0' x1' x2' x3' x4', σ' = (((((σ.set p0 x0').set p1 x1').set p2 x2').set p3 x3').set p4 x4') ∧ J (i + 1) x0' x1' x2' x3' x4' A')) dd (((((σ.set p0 x0).set p1 x1).set p2 x2).set p3 x3).set p4 x4) A)
    (hn : ∀ x0 x1 x2 x3 x4 A, J src.n x0 x1 x2 x3 x4 A → N (((((σ.set p0 x0).set p1 x1).set p2 x2).set p3 x3).set p4 x4) A) : ForQ src F N σ A :=
  ⟨fun i σ' A' => Lf (∃ x0' x1' x2' x3' x4', σ' = (((((σ.set p0 x0').set p1 x1').set p2 x2').set p3 x3').set p4 x4') ∧ J i x0' x1' x2' x3' x4' A'), by
    obtain ⟨x0, x1, x2, x3, x4, e, j⟩ := h0
    refine ⟨.mk ⟨x0, x1, x2, x3, x4, e.symm, j⟩, fun i σ' A' hi h => (let ⟨x0, x1, x2, x3, x4, e, j⟩ := h.h; hl i x0 x1 x2 x3 x4 A' hi j), fun i dd σ' A' hi hd h => ?_, fun σ' A' h => ?_⟩
    · obtain ⟨x0, x1, x2, x3, x4, e, j⟩ := h.h; rw [e]; exact hs i dd x0 x1 x2 x3 x4 A' hi hd j
    · obtain ⟨x0, x1, x2, x3, x4, e, j⟩ := h.h; rw [e]; exact hn x0 x1 x2 x3 x4 A' j⟩
theorem WhileQ.s5 (p0 p1 p2 p3 p4 : Nat) (J : Nat → Option D → Option D → Option D → Option D → Option D → OH → Prop) (h0 : ∃ m, ∃ x0 x1 x2 x3 x4, (((((σ.set p0 x0).set p1 x1).set p2 x2).set p3 x3).set p4 x4) = σ ∧ J m x0 x1 x2 x3 x4 A)
    (hs : ∀ m x0 x1 x2 x3 x4 A, J m x0 x1 x2 x3 x4 A → G (fun σ' A' => Lf (∃ m', m' < m ∧ ∃ x0' x1' x2' x3' x4', σ' = (((((σ.set p0 x0').set p1 x1').set p2 x2').set p3 x3').set p4 x4') ∧ J m' x0' x1' x2' x3' x4' A')) (((((σ.set p0 x0).set p1 x1).set p2 x2).set p3 x3).set p4 x4) A) : WhileQ G σ A :=
  ⟨fun m σ' A' => ∃ x0' x1' x2' x3' x4', σ' = (((((σ.set p0 x0').set p1 x1').set p2 x2').set p3 x3').set p4 x4') ∧ J m x0' x1' x2' x3' x4' A', by
    obtain ⟨m, x0, x1, x2, x3, x4, e, j⟩ := h0
    refine ⟨⟨m, x0, x1, x2, x3, x4, e.symm, j⟩, fun m σ' A' ⟨x0, x1, x2, x3, x4, e, j⟩ => ?_⟩
    rw [e]
    have hq := hs m x0 x1 x2 x3 x4 A' j
    simp only [lf_eq] at hq
    exact hq⟩
theorem ForQ.s6 (p0 p1 p2 p3 p4 p5 : Nat) (J : Nat → Option D → Option D → Option D → Option D → Option D → Option D → OH → Prop) (h0 : ∃ x0 x1 x2 x3 x4 x5, ((((((σ.set p0 x0).set p1 x1).set p2 x2).set p3 x3).set p4 x4).set p5 x5) = σ ∧ J 0 x0 x1 x2 x3 x4 x5 A) (hl : ∀ i x0 x1 x2 x3 x4 x5 A, i ≤ src.n → J i x0 x1 x2 x3 x4 x5 A → src.live A)
    (hs : ∀ i dd x0 x1 x2 x3 x4 x5 A, i < src.n → src.item i = some dd → J i x0 x1 x2 x3 x4 x5 A → F (fun σ' A' => Lf (∃ x0' x1' x2' x3' x4' x5', σ' = ((((((σ.set p0 x0').set p1 x1').set p2 x2').set p3 x3').set p4 x4').set p5 x5') ∧ J (i + 1) x0' x1' x2' x3' x4' x5' A')) dd ((((((σ.set p0 x0).set p1 x1).set p2 x2).set p3 x3).set p4 x4).set p5 x5) A)
    (hn : ∀ x0 x1 x2 x3 x4 x5 A, J src.n x0 x1 x2 x3 x4 x5 A → N ((((((σ.set p0 x0).set p1 x1).set p2 x2).set p3 x3).set p4 x4).set p5 x5) A) : ForQ src F N σ A :=
  ⟨fun i σ' A' => Lf (∃ x0' x1' x2' x3' x4' x5', σ' = ((((((σ.set p0 x0').set p1 x1').set p2 x2').set p3 x3').set p4 x4').set p5 x5') ∧ J i x0' x1' x2' x3' x4' x5' A'), by
    obtain ⟨x0, x1, x2, x3, x4, x5, e, j⟩ := h0
    refine ⟨.mk ⟨x0, x1, x2, x3, x4, x5, e.symm, j⟩, fun i σ' A' hi h => (let ⟨x0, x1, x2, x3, x4, x5, e, j⟩ := h.h; hl i x0 x1 x2 x3 x4 x5 A' hi j), fun i dd σ' A' hi hd h => ?_, fun σ' A' h => ?_⟩
    · obtain ⟨x0, x1, x2, x3, x4, x5, e, j⟩ := h.h; rw [e]; exact hs i dd x0 x1 x2 x3 x4 x5 A' hi hd j
    · obtain ⟨x0, x1, x2, x3, x4, x5, e, j⟩ := h.h; rw [e]; exact hn x0 x1 x2 x3 x4 x5 A' j⟩
theorem WhileQ.s6 (p0 p1 p2 p3 p4 p5 : Nat) (J : Nat → Option D → Option D → Option D → Option D → Option D → Option D → OH → Prop) (h0 : ∃ m, ∃ x0 x1 x2 x3 x4 x5, ((((((σ.set p0 x0).set p1 x1).set p2 x2).set p3 x3).set p4 x4).set p5 x5) = σ ∧ J m x0 x1 x2 x3 x4 x5 A)
    (hs : ∀ m x0 x1 x2 x3 x4 x5 A, J m x0 x1 x2 x3 x4 x5 A → G (fun σ' A' => Lf (∃ m', m' < m ∧ ∃ x0' x1' x2' x3' x4' x5', σ' = ((((((σ.set p0 x0').set p1 x1').set p2 x2').set p3 x3').set p4 x4').set p5 x5') ∧ J m' x0' x1' x2' x3' x4' x5' A')) ((((((σ.set p0 x0).set p1 x1).set p2 x2).set p3 x3).set p4 x4).set p5 x5) A) : WhileQ G σ A :=
  ⟨fun m σ' A' => ∃ x0' x1' x2' x3' x4' x5', σ' = ((((((σ.set p0 x0').set p1 x1').set p2 x2').set p3 x3').set p4 x4').set p5 x5') ∧ J m x0' x1' x2' x3' x4' x5' A', by
    obtain ⟨m, x0, x1, x2, x3, x4, x5, e, j⟩ := h0
    refine ⟨⟨m, x0, x1, x2, x3, x4, x5, e.symm, j⟩, fun m σ' A' ⟨x0, x1, x2, x3, x4, x5, e, j⟩ => ?_⟩
    rw [e]
    have hq := hs m x0 x1 x2 x3 x4 x5 A' j
    simp only [lf_eq] at hq
    exact hq⟩
theorem ForQ.s7 (p0 p1 p2 p3 p4 p5 p6 : Nat) (J : Nat → Option D → Option D → Option D → Option D → Option D → Option D → Option D → OH → Prop) (h0 : ∃ x0 x1 x2 x3 x4 x5 x6, (((((((σ.set p0 x0).set p1 x1).set p2 x2).set p3 x3).set p4 x4).set p5 x5).set p6 x6) = σ ∧ J 0 x0 x1 x2 x3 x4 x5 x6 A) (hl : ∀ i x0 x1 x2 x3 x4 x5 x6 A, i ≤ src.n → J i x0 x1 x2 x3 x4 x5 x6 A → src.live A)
    (hs : ∀ i dd x0 x1 x2 x3 x4 x5 x6 A, i < src.n → src.item i = some dd → J i x0 x1 x2 x3 x4 x5 x6 A → F (fun σ' A' => Lf (∃ x0' x1' x2' x3' x4' x5' x6', σ' = (((((((σ.set p0 x0').set p1 x1').set p2 x2').set p3 x3').set p4 x4').set p5 x5').set p6 x6') ∧ J (i + 1) x0' x1' x2' x3' x4' x5' x6' A')) dd (((((((σ.set p0 x0).set p1 x1).set p2 x2).set p3 x3).set p4 x4).set p5 x5).set p6 x6) A)
    (hn : ∀ x0 x1 x2 x3 x4 x5 x6 A, J src.n x0 x1 x2 x3 x4 x5 x6 A → N (((((((σ.set p0 x0).set p1 x1).set p2 x2).set p3 x3).set p4 x4).set p5 x5).set p6 x6) A) : ForQ src F N σ A :=
  ⟨fun i σ' A' => Lf (∃ x0' x1' x2' x3' x4' x5' x6', σ' = (((((((σ.set p0 x0').set p1 x1').set p2 x2').set p3 x3').set p4 x4').set p5 x5').set p6 x6') ∧ J i x0' x1' x2' x3' x4' x5' x6' A'), by
    obtain ⟨x0, x1, x2, x3, x4, x5, x6, e, j⟩ := h0
    refine ⟨.mk ⟨x0, x1, x2, x3, x4, x5, x6, e.symm, j⟩, fun i σ' A' hi h => (let ⟨x0, x1, x2, x3, x4, x5, x6, e, j⟩ := h.h; hl i x0 x1 x2 x3 x4 x5 x6 A' hi j), fun i dd σ' A' hi hd h => ?_, fun σ' A' h => ?_⟩
    · obtain ⟨x0, x1, x2, x3, x4, x5, x6, e, j⟩ := h.h; rw [e]; exact hs i dd x0 x1 x2 x3 x4 x5 x6 A' hi hd j
    · obtain ⟨x0, x1, x2, x3, x4, x5, x6, e, j⟩ := h.h; rw [e]; exact hn x0 x1 x2 x3 x4 x5 x6 A' j⟩
theorem WhileQ.s7 (p0 p1 p2 p3 p4 p5 p6 : Nat) (J : Nat → Option D → Option D → Option D → Option D → Option D → Option D → Option D → OH → Prop) (h0 : ∃ m, ∃ x0 x1 x2 x3 x4 x5 x6, (((((((σ.set p0 x0).set p1 x1).set p2 x2).set p3 x3).set p4 x4).set p5 x5).set p6 x6) = σ ∧ J m x0 x1 x2 x3 x4 x5 x6 A)
    (hs : ∀ m x0 x1 x2 x3 x4 x5 x6 A, J m x0 x1 x2 x3 x4 x5 x6 A → G (fun σ' A' => Lf (∃ m', m' < m ∧ ∃ x0' x1' x2' x3' x4' x5' x6', σ' = (((((((σ.set p0 x0').set p1 x1').set p2 x2').set p3 x3').set p4 x4').set p5 x5').set p6 x6') ∧ J m' x0' x1' x2' x3' x4' x5' x6' A')) (((((((σ.set p0 x0).set p1 x1).set p2 x2).set p3 x3).set p4 x4).set p5 x5).set p6 x6) A) : WhileQ G σ A :=
  ⟨fun m σ' A' => ∃ x0' x1' x2' x3' x4' x5' x6', σ' = (((((((σ.set p0 x0').set p1 x1').set p2 x2').set p3 x3').set p4 x4').set p5 x5').set p6 x6') ∧ J m x0' x1' x2' x3' x4' x5' x6' A', by
    obtain ⟨m, x0, x1, x2, x3, x4, x5, x6, e, j⟩ := h0
    refine ⟨⟨m, x0, x1, x2, x3, x4, x5, x6, e.symm, j⟩, fun m σ' A' ⟨x0, x1, x2, x3, x4, x5, x6, e, j⟩ => ?_⟩
    rw [e]
    have hq := hs m x0 x1 x2 x3 x4 x5 x6 A' j
    simp only [lf_eq] at hq
    exact hq⟩
theorem ForQ.s8 (p0 p1 p2 p3 p4 p5 p6 p7 : Nat) (J : Nat → Option D → Option D → Option D → Option D → Option D → Option D → Option D → Option D → OH → Prop) (h0 : ∃ x0 x1 x2 x3 x4 x5 x6 x7, ((((((((σ.set p0 x0).set p1 x1).set p2 x2).set p3 x3).set p4 x4).set p5 x5).set p6 x6).set p7 x7) = σ ∧ J 0 x0 x1 x2 x3 x4 x5 x6 x7 A) (hl : ∀ i x0 x1 x2 x3 x4 x5 x6 x7 A, i ≤ src.n → J i x0 x1 x2 x3 x4 x5 x6 x7 A → src.live A)
    (hs : ∀ i dd x0 x1 x2 x3 x4 x5 x6 x7 A, i < src.n → src.item i = some dd → J i x0 x1 x2 x3 x4 x5 x6 x7 A → F (fun σ' A' => Lf (∃ x0' x1' x2' x3' x4' x5' x6' x7', σ' = ((((((((σ.set p0 x0').set p1 x1').set p2 x2').set p3 x3').set p4 x4').set p5 x5').set p6 x6').set p7 x7') ∧ J (i + 1) x0' x1' x2' x3' x4' x5' x6' x7' A')) dd ((((((((σ.set p0 x0).set p1 x1).set p2 x2).set p3 x3).set p4 x4).set p5 x5).set p6 x6).set p7 x7) A)
    (hn : ∀ x0 x1 x2 x3 x4 x5 x6 x7 A, J src.n x0 x1 x2 x3 x4 x5 x6 x7 A → N ((((((((σ.set p0 x0).set p1 x1).set p2 x2).set p3 x3).set p4 x4).set p5 x5).set p6 x6).set p7 x7) A) : ForQ src F N σ A :=
  ⟨fun i σ' A' => Lf (∃ x0' x1' x2' x3' x4' x5' x6' x7', σ' = ((((((((σ.set p0 x0').set p1 x1').set p2 x2').set p3 x3').set p4 x4').set p5 x5').set p6 x6').set p7 x7') ∧ J i x0' x1' x2' x3' x4' x5' x6' x7' A'), by
    obtain ⟨x0, x1, x2, x3, x4, x5, x6, x7, e, j⟩ := h0
    refine ⟨.mk ⟨x0, x1, x2, x3, x4, x5, x6, x7, e.symm, j⟩, fun i σ' A' hi h => (let ⟨x0, x1, x2, x3, x4, x5, x6, x7, e, j⟩ := h.h; hl i x0 x1 x2 x3 x4 x5 x6 x7 A' hi j), fun i dd σ' A' hi hd h => ?_, fun σ' A' h => ?_⟩
    · obtain ⟨x0, x1, x2, x3, x4, x5, x6, x7, e, j⟩ := h.h; rw [e]; exact hs i dd x0 x1 x2 x3 x4 x5 x6 x7 A' hi hd j
    · obtain ⟨x0, x1, x2, x3, x4, x5, x6, x7, e, j⟩ := h.h; rw [e]; exact hn x0 x1 x2 x3 x4 x5 x6 x7 A' j⟩
theorem WhileQ.s8 (p0 p1 p2 p3 p4 p5 p6 p7 : Nat) (J : Nat → Option D → Option D → Option D → Option D → Option D → Option D → Option D → Option D → OH → Prop) (h0 : ∃ m, ∃ x0 x1 x2 x3 x4 x5 x6 x7, ((((((((σ.set p0 x0).set p1 x1).set p2 x2).set p3 x3).set p4 x4).set p5 x5).set p6 x6).set p7 x7) = σ ∧ J m x0 x1 x2 x3 x4 x5 x6 x7 A)
    (hs : ∀ m x0 x1 x2 x3 x4 x5 x6 x7 A, J m x0 x1 x2 x3 x4 x5 x6 x7 A → G (fun σ' A' => Lf (∃ m', m' < m ∧ ∃ x0' x1' x2' x3' x4' x5' x6' x7', σ' = ((((((((σ.set p0 x0').set p1 x1').set p2 x2').set p3 x3').set p4 x4').set p5 x5').set p6 x6').set p7 x7') ∧ J m' x0' x1' x2' x3' x4' x5' x6' x7' A')) ((((((((σ.set p0 x0).set p1 x1).set p2 x2).set p3 x3).set p4 x4).set p5 x5).set p6 x6).set p7 x7) A) : WhileQ G σ A :=
  ⟨fun m σ' A' => ∃ x0' x1' x2' x3' x4' x5' x6' x7', σ' = ((((((((σ.set p0 x0').set p1 x1').set p2 x2').set p3 x3').set p4 x4').set p5 x5').set p6 x6').set p7 x7') ∧ J m x0' x1' x2' x3' x4' x5' x6' x7' A', by
    obtain ⟨m, x0, x1, x2, x3, x4, x5, x6, x7, e, j⟩ := h0
    refine ⟨⟨m, x0, x1, x2, x3, x4, x5, x6, x7, e.symm, j⟩, fun m σ' A' ⟨x0, x1, x2, x3, x4, x5, x6, x7, e, j⟩ => ?_⟩
    rw [e]
    have hq := hs m x0 x1 x2 x3 x4 x5 x6 x7 A' j
    simp only [lf_eq] at hq
    exact hq⟩
theorem ForQ.s9 (p0 p1 p2 p3 p4 p5 p6 p7 p8 : Nat) (J : Nat → Option D → Option D → Option D → Option D → Option D → Option D → Option D → Option D → Option D → OH → Prop) (h0 : ∃ x0 x1 x2 x3 x4 x5 x6 x7 x8, (((((((((σ.set p0 x0).set p1 x1).set p2 x2).set p3 x3).set p4 x4).set p5 x5).set p6 x6).set p7 x7).set p8 x8) = σ ∧ J 0 x0 x1 x2 x3 x4 x5 x6 x7 x8 A) (hl : ∀ i x0 x1 x2 x3 x4 x5 x6 x7 x8 A, i ≤ src.n → J i x0 x1 x2 x3 x4 x5 x6 x7 x8 A → src.live A)
    (hs : ∀ i dd x0 x1 x2 x3 x4 x5 x6 x7 x8 A, i < src.n → src.item i = some dd → J i x0 x1 x2 x3 x4 x5 x6 x7 x8 A → F (fun σ' A' => Lf (∃ x0' x1' x2' x3' x4' x5' x6' x7' x8', σ' = (((((((((σ.set p0 x0').set p1 x1').set p2 x2').set p3 x3').set p4 x4').set p5 x5').set p6 x6').set p7 x7').set p8 x8') ∧ J (i + 1) x0' x1' x2' x3' x4' x5' x6' x7' x8' A')) dd (((((((((σ.set p0 x0).set p1 x1).set p2 x2).set p3 x3).set p4 x4).set p5 x5).set p6 x6).set p7 x7).set p8 x8) A)
    (hn : ∀ x0 x1 x2 x3 x4 x5 x6 x7 x8 A, J src.n x0 x1 x2 x3 x4 x5 x6 x7 x8 A → N (((((((((σ.set p0 x0).set p1 x1).set p2 x2).set p3 x3).set p4 x4).set p5 x5).set p6 x6).set p7 x7).set p8 x8) A) : ForQ src F N σ A :=
  ⟨fun i σ' A' => Lf (∃ x0' x1' x2' x3' x4' x5' x6' x7' x8', σ' = (((((((((σ.set p0 x0').set p1 x1').set p2 x2').set p3 x3').set p4 x4').set p5 x5').set p6 x6').set p7 x7').set p8 x8') ∧ J i x0' x1' x2' x3' x4' x5' x6' x7' x8' A'), by
    obtain ⟨x0, x1, x2, x3, x4, x5, x6, x7, x8, e, j⟩ := h0
    refine ⟨.mk ⟨x0, x1, x2, x3, x4, x5, x6, x7, x8, e.symm, j⟩, fun i σ' A' hi h => (let ⟨x0, x1, x2, x3, x4, x5, x6, x7, x8, e, j⟩ := h.h; hl i x0 x1 x2 x3 x4 x5 x6 x7 x8 A' hi j), fun i dd σ' A' hi hd h => ?_, fun σ' A' h => ?_⟩
    · obtain ⟨x0, x1, x2, x3, x4, x5, x6, x7, x8, e, j⟩ := h.h; rw [e]; exact hs i dd x0 x1 x2 x3 x4 x5 x6 x7 x8 A' hi hd j
    · obtain ⟨x0, x1, x2, x3, x4, x5, x6, x7, x8, e, j⟩ := h.h; rw [e]; exact hn x0 x1 x2 x3 x4 x5 x6 x7 x8 A' j⟩
theorem WhileQ.s9 (p0 p1 p2 p3 p4 p5 p6 p7 p8 : Nat) (J : Nat → Option D → Option D → Option D → Option D → Option D → Option D → Option D → Option D → Option D → OH → Prop) (h0 : ∃ m, ∃ x0 x1 x2 x3 x4 x5 x6 x7 x8, (((((((((σ.set p0 x0).set p1 x1).set p2 x2).set p3 x3).set p4 x4).set p5 x5).set p6 x6).set p7 x7).set p8 x8) = σ ∧ J m x0 x1 x2 x3 x4 x5 x6 x7 x8 A)
    (hs : ∀ m x0 x1 x2 x3 x4 x5 x6 x7 x8 A, J m x0 x1 x2 x3 x4 x5 x6 x7 x8 A → G (fun σ' A' => Lf (∃ m', m' < m ∧ ∃ x0' x1' x2' x3' x4' x5' x6' x7' x8', σ' = (((((((((σ.set p0 x0').set p1 x1').set p2 x2').set p3 x3').set p4 x4').set p5 x5').set p6 x6').set p7 x7').set p8 x8') ∧ J m' x0' x1' x2' x3' x4' x5' x6' x7' x8' A')) (((((((((σ.set p0 x0).set p1 x1).set p2 x2).set p3 x3).set p4 x4).set p5 x5).set p6 x6).set p7 x7).set p8 x8) A) : WhileQ G σ A :=
  ⟨fun m σ' A' => ∃ x0' x1' x2' x3' x4' x5' x6' x7' x8', σ' = (((((((((σ.set p0 x0').set p1 x1').set p2 x2').set p3 x3').set p4 x4').set p5 x5').set p6 x6').set p7 x7').set p8 x8') ∧ J m x0' x1' x2' x3' x4' x5' x6' x7' x8' A', by
    obtain ⟨m, x0, x1, x2, x3, x4, x5, x6, x7, x8, e, j⟩ := h0
    refine ⟨⟨m, x0, x1, x2, x3, x4, x5, x6, x7, x8, e.symm, j⟩, fun m σ' A' ⟨x0, x1, x2, x3, x4, x5, x6, x7, x8, e, j⟩ => ?_⟩
    rw [e]
    have hq := hs m x0 x1 x2 x3 x4 x5 x6 x7 x8 A' j
    simp only [lf_eq] at hq
    exact hq⟩
theorem ForQ.s10 (p0 p1 p2 p3 p4 p5 p6 p7 p8 p9 : Nat) (J : Nat → Option D → Option D → Option D → Option D → Option D → Option D → Option D → Option D → Option D → Option D → OH → Prop) (h0 : ∃ x0 x1 x2 x3 x4 x5 x6 x7 x8 x9, ((((((((((σ.set p0 x0).set p1 x1).set p2 x2).set p3 x3).set p4 x4).set p5 x5).set p6 x6).set p7 x7).set p8 x8).set p9 x9) = σ ∧ J 0 x0 x1 x2 x3 x4 x5 x6 x7 x8 x9 A) (hl : ∀ i x0 x1 x2 x3 x4 x5 x6 x7 x8 x9 A, i ≤ src.n → J i x0 x1 x2 x3 x4 x5 x6 x7 x8 x9 A → src.live A)
    (hs : ∀ i dd x0 x1 x2 x3 x4 x5 x6 x7 x8 x9 A, i < src.n → src.item i = some dd → J i x0 x1 x2 x3 x4 x5 x6 x7 x8 x9 A → F (fun σ' A' => Lf (∃ x0' x1' x2' x3' x4' x5' x6' x7' x8' x9', σ' = ((((((((((σ.set p0 x0').set p1 x1').set p2 x2').set p3 x3').set p4 x4').set p5 x5').set p6 x6').set p7 x7').set p8 x8').set p9 x9') ∧ J (i + 1) x0' x1' x2' x3' x4' x5' x6' x7' x8' x9' A')) dd ((((((((((σ.set p0 x0).set p1 x1).set p2 x2).set p3 x3).set p4 x4).set p5 x5).set p6 x6).set p7 x7).set p8 x8).set p9 x9) A)
    (hn : ∀ x0 x1 x2 x3 x4 x5 x6 x7 x8 x9 A, J src.n x0 x1 x2 x3 x4 x5 x6 x7 x8 x9 A → N ((((((((((σ.set p0 x0).set p1 x1).set p2 x2).set p3 x3).set p4 x4).set p5 x5).set p6 x6).set p7 x7).set p8 x8).set p9 x9) A) : ForQ src F N σ A :=
  ⟨fun i σ' A' => Lf (∃ x0' x1' x2' x3' x4' x5' x6' x7' x8' x9', σ' = ((((((((((σ.set p0 x0').set p1 x1').set p2 x2').set p3 x3').set p4 x4').set p5 x5').set p6 x6').set p7 x7').set p8 x8').set p9 x9') ∧ J i x0' x1' x2' x3' x4' x5' x6' x7' x8' x9' A'), by
    obtain ⟨x0, x1, x2, x3, x4, x5, x6, x7, x8, x9, e, j⟩ := h0
    refine ⟨.mk ⟨x0, x1, x2, x3, x4, x5, x6, x7, x8, x9, e.symm, j⟩, fun i σ' A' hi h => (let ⟨x0, x1, x2, x3, x4, x5, x6, x7, x8, x9, e, j⟩ := h.h; hl i x0 x1 x2 x3 x4 x5 x6 x7 x8 x9 A' hi j), fun i dd σ' A' hi hd h => ?_, fun σ' A' h => ?_⟩
    · obtain ⟨x0, x1, x2, x3, x4, x5, x6, x7, x8, x9, e, j⟩ := h.h; rw [e]; exact hs i dd x0 x1 x2 x3 x4 x5 x6 x7 x8 x9 A' hi hd j
    · obtain ⟨x0, x1, x2, x3, x4, x5, x6, x7, x8, x9, e, j⟩ := h.h; rw [e]; exact hn x0 x1 x2 x3 x4 x5 x6 x7 x8 x9 A' j⟩
theorem WhileQ.s10 (p0 p1 p2 p3 p4 p5 p6 p7 p8 p9 : Nat) (J : Nat → Option D → Option D → Option D → Option D → Option D → Option D → Option D → Option D → Option D → Option D → OH → Prop) (h0 : ∃ m, ∃ x0 x1 x2 x3 x4 x5 x6 x7 x8 x9, ((((((((((σ.set p0 x0).set p1 x1).set p2 x2).set p3 x3).set p4 x4).set p5 x5).set p6 x6).set p7 x7).set p8 x8).set p9 x9) = σ ∧ J m x0 x1 x2 x3 x4 x5 x6 x7 x8 x9 A)
    (hs : ∀ m x0 x1 x2 x3 x4 x5 x6 x7 x8 x9 A, J m x0 x1 x2 x3 x4 x5 x6 x7 x8 x9 A → G (fun σ' A' => Lf (∃ m', m' < m ∧ ∃ x0' x1' x2' x3' x4' x5' x6' x7' x8' x9', σ' = ((((((((((σ.set p0 x0').set p1 x1').set p2 x2').set p3 x3').set p4 x4').set p5 x5').set p6 x6').set p7 x7').set p8 x8').set p9 x9') ∧ J m' x0' x1' x2' x3' x4' x5' x6' x7' x8' x9' A')) ((((((((((σ.set p0 x0).set p1 x1).set p2 x2).set p3 x3).set p4 x4).set p5 x5).set p6 x6).set p7 x7).set p8 x8).set p9 x9) A) : WhileQ G σ A :=
  ⟨fun m σ' A' => ∃ x0' x1' x2' x3' x4' x5' x6' x7' x8' x9', σ' = ((((((((((σ.set p0 x0').set p1 x1').set p2 x2').set p3 x3').set p4 x4').set p5 x5').set p6 x6').set p7 x7').set p8 x8').set p9 x9') ∧ J m x0' x1' x2' x3' x4' x5' x6' x7' x8' x9' A', by
    obtain ⟨m, x0, x1, x2, x3, x4, x5, x6, x7, x8, x9, e, j⟩ := h0
    refine ⟨⟨m, x0, x1, x2, x3, x4, x5, x6, x7, x8, x9, e.symm, j⟩, fun m σ' A' ⟨x0, x1, x2, x3, x4, x5, x6, x7, x8, x9, e, j⟩ => ?_⟩
    rw [e]
    have hq := hs m x0 x1 x2 x3 x4 x5 x6 x7 x8 x9 A' j
    simp only [lf_eq] at hq
    exact hq⟩
theorem ForQ.s11 (p0 p1 p2 p3 p4 p5 p6 p7 p8 p9 p10 : Nat) (J : Nat → Option D → Option D → Option D → Option D → Option D → Option D → Option D → Option D → Option D → Option D → Option D → OH → Prop) (h0 : ∃ x0 x1 x2 x3 x4 x5 x6 x7 x8 x9 x10, (((((((((((σ.set p0 x0).set p1 x1).set p2 x2).set p3 x3).set p4 x4).set p5 x5).set p6 x6).set p7 x7).set p8 x8).set p9 x9).set p10 x10) = σ ∧ J 0 x0 x1 x2 x3 x4 x5 x6 x7 x8 x9 x10 A) (hl : ∀ i x0 x1 x2 x3 x4 x5 x6 x7 x8 x9 x10 A, i ≤ src.n → J i x0 x1 x2 x3 x4 x5 x6 x7 x8 x9 x10 A → src.live A)
    (hs : ∀ i dd x0 x1 x2 x3 x4 x5 x6 x7 x8 x9 x10 A, i < src.n → src.item i = some dd → J i x0 x1 x2 x3 x4 x5 x6 x7 x8 x9 x10 A → F (fun σ' A' => Lf (∃ x0' x1' x2' x3' x4' x5' x6' x7' x8' x9' x10', σ' = (((((((((((σ.set p0 x0').set p1 x1').set p2 x2').set p3 x3').set p4 x4').set p5 x5').set p6 x6').set p7 x7').set p8 x8').set p9 x9').set p10 x10') ∧ J (i + 1) x0' x1' x2' x3' x4' x5' x6' x7' x8' x9' x10' A')) dd (((((((((((σ.set p0 x0).set p1 x1).set p2 x2).set p3 x3).set p4 x4).set p5 x5).set p6 x6).set p7 x7).set p8 x8).set p9 x9).set p10 x10) A)
    (hn : ∀ x0 x1 x2 x3 x4 x5 x6 x7 x8 x9 x10 A, J src.n x0 x1 x2 x3 x4 x5 x6 x7 x8 x9 x10 A → N (((((((((((σ.set p0 x0).set p1 x1).set p2 x2).set p3 x3).set p4 x4).set p5 x5).set p6 x6).set p7 x7).set p8 x8).set p9 x9).set p10 x10) A) : ForQ src F N σ A :=
  ⟨fun i σ' A' => Lf (∃ x0' x1' x2' x3' x4' x5' x6' x7' x8' x9' x10', σ' = (((((((((((σ.set p0 x0').set p1 x1').set p2 x2').set p3 x3').set p4 x4').set p5 x5').set p6 x6').set p7 x7').set p8 x8').set p9 x9').set p10 x10') ∧ J i x0' x1' x2' x3' x4' x5' x6' x7' x8' x9' x10' A'), by
    obtain ⟨x0, x1, x2, x3, x4, x5, x6, x7, x8, x9, x10, e, j⟩ := h0
    refine ⟨.mk ⟨x0, x1, x2, x3, x4, x5, x6, x7, x8, x9, x10, e.symm, j⟩, fun i σ' A' hi h => (let ⟨x0, x1, x2, x3, x4, x5, x6, x7, x8, x9, x10, e, j⟩ := h.h; hl i x0 x1 x2 x3 x4 x5 x6 x7 x8 x9 x10 A' hi j), fun i dd σ' A' hi hd h => ?_, fun σ' A' h => ?_⟩
    · obtain ⟨x0, x1, x2, x3, x4, x5, x6, x7, x8, x9, x10, e, j⟩ := h.h; rw [e]; exact hs i dd x0 x1 x2 x3 x4 x5 x6 x7 x8 x9 x10 A' hi hd j
    · obtain ⟨x0, x1, x2, x3, x4, x5, x6, x7, x8, x9, x10, e, j⟩ := h.h; rw [e]; exact hn x0 x1 x2 x3 x4 x5 x6 x7 x8 x9 x10 A' j⟩
theorem WhileQ.s11 (p0 p1 p2 p3 p4 p5 p6 p7 p8 p9 p10 : Nat) (J : Nat → Option D → Option D → Option D → Option D → Option D → Option D → Option D → Option D → Option D → Option D → Option D → OH → Prop) (h0 : ∃ m, ∃ x0 x1 x2 x3 x4 x5 x6 x7 x8 x9 x10, (((((((((((σ.set p0 x0).set p1 x1).set p2 x2).set p3 x3).set p4 x4).set p5 x5).set p6 x6).set p7 x7).set p8 x8).set p9 x9).set p10 x10) = σ ∧ J m x0 x1 x2 x3 x4 x5 x6 x7 x8 x9 x10 A)
    (hs : ∀ m x0 x1 x2 x3 x4 x5 x6 x7 x8 x9 x10 A, J m x0 x1 x2 x3 x4 x5 x6 x7 x8 x9 x10 A → G (fun σ' A' => Lf (∃ m', m' < m ∧ ∃ x0' x1' x2' x3' x4' x5' x6' x7' x8' x9' x10', σ' = (((((((((((σ.set p0 x0').set p1 x1').set p2 x2').set p3 x3').set p4 x4').set p5 x5').set p6 x6').set p7 x7').set p8 x8').set p9 x9').set p10 x10') ∧ J m' x0' x1' x2' x3' x4' x5' x6' x7' x8' x9' x10' A')) (((((((((((σ.set p0 x0).set p1 x1).set p2 x2).set p3 x3).set p4 x4).set p5 x5).set p6 x6).set p7 x7).set p8 x8).set p9 x9).set p10 x10) A) : WhileQ G σ A :=
  ⟨fun m σ' A' => ∃ x0' x1' x2' x3' x4' x5' x6' x7' x8' x9' x10', σ' = (((((((((((σ.set p0 x0').set p1 x1').set p2 x2').set p3 x3').set p4 x4').set p5 x5').set p6 x6').set p7 x7').set p8 x8').set p9 x9').set p10 x10') ∧ J m x0' x1' x2' x3' x4' x5' x6' x7' x8' x9' x10' A', by
    obtain ⟨m, x0, x1, x2, x3, x4, x5, x6, x7, x8, x9, x10, e, j⟩ := h0
    refine ⟨⟨m, x0, x1, x2, x3, x4, x5, x6, x7, x8, x9, x10, e.symm, j⟩, fun m σ' A' ⟨x0, x1, x2, x3, x4, x5, x6, x7, x8, x9, x10, e, j⟩ => ?_⟩
    rw [e]
    have hq := hs m x0 x1 x2 x3 x4 x5 x6 x7 x8 x9 x10 A' j
    simp only [lf_eq] at hq
    exact hq⟩
theorem ForQ.s12 (p0 p1 p2 p3 p4 p5 p6 p7 p8 p9 p10 p11 : Nat) (J : Nat → Option D → Option D → Option D → Option D → Option D → Option D → Option D → Option D → Option D → Option D → Option D → Option D → OH → Prop) (h0 : ∃ x0 x1 x2 x3 x4 x5 x6 x7 x8 x9 x10 x11, ((((((((((((σ.set p0 x0).set p1 x1).set p2 x2).set p3 x3).set p4 x4).set p5 x5).set p6 x6).set p7 x7).set p8 x8).set p9 x9).set p10 x10).set p11 x11) = σ ∧ J 0 x0 x1 x2 x3 x4 x5 x6 x7 x8 x9 x10 x11 A) (hl : ∀ i x0 x1 x2 x3 x4 x5 x6 x7 x8 x9 x10 x11 A, i ≤ src.n → J i x0 x1 x2 x3 x4 x5 x6 x7 x8 x9 x10 x11 A → src.live A)
    (hs : ∀ i dd x0 x1 x2 x3 x4 x5 x6 x7 x8 x9 x10 x11 A, i < src.n → src.item i = some dd → J i x0 x1 x2 x3 x4 x5 x6 x7 x8 x9 x10 x11 A → F (fun σ' A' => Lf (∃ x0' x1' x2' x3' x4' x5' x6' x7' x8' x9' x10' x11', σ' = ((((((((((((σ.set p0 x0').set p1 x1').set p2 x2').set p3 x3').set p4 x4').set p5 x5').set p6 x6').set p7 x7').set p8 x8').set p9 x9').set p10 x10').set p11 x11') ∧ J (i + 1) x0' x1' x2' x3' x4' x5' x6' x7' x8' x9' x10' x11' A')) dd ((((((((((((σ.set p0 x0).set p1 x1).set p2 x2).set p3 x3).set p4 x4).set p5 x5).set p6 x6).set p7 x7).set p8 x8).set p9 x9).set p10 x10).set p11 x11) A)
    (hn : ∀ x0 x1 x2 x3 x4 x5 x6 x7 x8 x9 x10 x11 A, J src.n x0 x1 x2 x3 x4 x5 x6 x7 x8 x9 x10 x11 A → N ((((((((((((σ.set p0 x0).set p1 x1).set p2 x2).set p3 x3).set p4 x4).set p5 x5).set p6 x6).set p7 x7).set p8 x8).set p9 x9).set p10 x10).set p11 x11) A) : ForQ src F N σ A :=
  ⟨fun i σ' A' => Lf (∃ x0' x1' x2' x3' x4' x5' x6' x7' x8' x9' x10' x11', σ' = ((((((((((((σ.set p0 x0').set p1 x1').set p2 x2').set p3 x3').set p4 x4').set p5 x5').set p6 x6').set p7 x7').set p8 x8').set p9 x9').set p10 x10').set p11 x11') ∧ J i x0' x1' x2' x3' x4' x5' x6' x7' x8' x9' x10' x11' A'), by
    obtain ⟨x0, x1, x2, x3, x4, x5, x6, x7, x8, x9, x10, x11, e, j⟩ := h0
    refine ⟨.mk ⟨x0, x1, x2, x3, x4, x5, x6, x7, x8, x9, x10, x11, e.symm, j⟩, fun i σ' A' hi h => (let ⟨x0, x1, x2, x3, x4, x5, x6, x7, x8, x9, x10, x11, e, j⟩ := h.h; hl i x0 x1 x2 x3 x4 x5 x6 x7 x8 x9 x10 x11 A' hi j), fun i dd σ' A' hi hd h => ?_, fun σ' A' h => ?_⟩
    · obtain ⟨x0, x1, x2, x3, x4, x5, x6, x7, x8, x9, x10, x11, e, j⟩ := h.h; rw [e]; exact hs i dd x0 x1 x2 x3 x4 x5 x6 x7 x8 x9 x10 x11 A' hi hd j
    · obtain ⟨x0, x1, x2, x3, x4, x5, x6, x7, x8, x9, x10, x11, e, j⟩ := h.h; rw [e]; exact hn x0 x1 x2 x3 x4 x5 x6 x7 x8 x9 x10 x11 A' j⟩
theorem WhileQ.s12 (p0 p1 p2 p3 p4 p5 p6 p7 p8 p9 p10 p11 : Nat) (J : Nat → Option D → Option D → Option D → Option D → Option D → Option D → Option D → Option D → Option D → Option D → Option D → Option D → OH → Prop) (h0 : ∃ m, ∃ x0 x1 x2 x3 x4 x5 x6 x7 x8 x9 x10 x11, ((((((((((((σ.set p0 x0).set p1 x1).set p2 x2).set p3 x3).set p4 x4).set p5 x5).set p6 x6).set p7 x7).set p8 x8).set p9 x9).set p10 x10).set p11 x11) = σ ∧ J m x0 x1 x2 x3 x4 x5 x6 x7 x8 x9 x10 x11 A)
    (hs : ∀ m x0 x1 x2 x3 x4 x5 x6 x7 x8 x9 x10 x11 A, J m x0 x1 x2 x3 x4 x5 x6 x7 x8 x9 x10 x11 A → G (fun σ' A' => Lf (∃ m', m' < m ∧ ∃ x0' x1' x2' x3' x4' x5' x6' x7' x8' x9' x10' x11', σ' = ((((((((((((σ.set p0 x0').set p1 x1').set p2 x2').set p3 x3').set p4 x4').set p5 x5').set p6 x6').set p7 x7').set p8 x8').set p9 x9').set p10 x10').set p11 x11') ∧ J m' x0' x1' x2' x3' x4' x5' x6' x7' x8' x9' x10' x11' A')) ((((((((((((σ.set p0 x0).set p1 x1).set p2 x2).set p3 x3).set p4 x4).set p5 x5).set p6 x6).set p7 x7).set p8 x8).set p9 x9).set p10 x10).set p11 x11) A) : WhileQ G σ A :=
  ⟨fun m σ' A' => ∃ x0' x1' x2' x3' x4' x5' x6' x7' x8' x9' x10' x11', σ' = ((((((((((((σ.set p0 x0').set p1 x1').set p2 x2').set p3 x3').set p4 x4').set p5 x5').set p6 x6').set p7 x7').set p8 x8').set p9 x9').set p10 x10').set p11 x11') ∧ J m x0' x1' x2' x3' x4' x5' x6' x7' x8' x9' x10' x11' A', by
    obtain ⟨m, x0, x1, x2, x3, x4, x5, x6, x7, x8, x9, x10, x11, e, j⟩ := h0
    refine ⟨⟨m, x0, x1, x2, x3, x4, x5, x6, x7, x8, x9, x10, x11, e.symm, j⟩, fun m σ' A' ⟨x0, x1, x2, x3, x4, x5, x6, x7, x8, x9, x10, x11, e, j⟩ => ?_⟩
    rw [e]
    have hq := hs m x0 x1 x2 x3 x4 x5 x6 x7 x8 x9 x10 x11 A' j
    simp only [lf_eq] at hq
    exact hq⟩
end
theorem at_zero {α : Type} {x : α} {xs : List α} : atI (x :: xs) 0 = some x := atI_nat (j := 0) rfl
/-- a truth that is another one -/
theorem qbl {Q : KH} {A : OH} {b b' : Bool} (q : Q (.v (.bl b)) A) (e : b = b') : Q (.v (.bl b')) A := e ▸ q
theorem qint {Q : KH} {A : OH} {b b' : Int} (q : Q (.v (.int b)) A) (e : b = b') : Q (.v (.int b')) A := e ▸ q
/-- the item at i -/
abbrev gI (L : List Int) (i : Int) : Int := L.getD i.toNat 0
theorem at_gI {L : List Int} {i : Int} (h0 : 0 ≤ i) (h1 : i < L.length) : atI (dI L) i = some (.v (.int (gI L i))) := by
  obtain ⟨n, rfl⟩ := Int.eq_ofNat_of_zero_le h0
  have hn : n < L.length := by omega
  refine atI_nat ?_
  rw [List.getElem?_map, List.getElem?_eq_getElem hn]
  show some (D.v (.int L[n])) = some (D.v (.int (L.getD n 0)))
  rw [List.getD_eq_getElem?_getD, List.getElem?_eq_getElem hn]
  rfl
theorem i01 (b : Bool) : (0 : Int) ≤ (if b = true then 1 else 0) ∧ (if b = true then (1 : Int) else 0) < 2 := by cases b <;> exact ⟨by decide, by decide⟩
theorem gI_all {L : List Int} {i : Int} {p : Int → Prop} (h : ∀ x ∈ L, p x) (h0 : 0 ≤ i) (h1 : i < L.length) : p (gI L i) := by
  obtain ⟨n, rfl⟩ := Int.eq_ofNat_of_zero_le h0
  have hn : n < L.length := by omega
  show p (L.getD n 0)
  rw [List.getD_eq_getElem?_getD, List.getElem?_eq_getElem hn]
  exact h _ (List.getElem_mem hn)
theorem at_rg2 (lo hi : Int) {a0 a1 i : Int} {Q : KH} {A : OH} (h : (lo ≤ a0 ∧ a0 ≤ hi) ∧ (lo ≤ a1 ∧ a1 ≤ hi)) (h0 : 0 ≤ i) (h1 : i < 2) (k : ∀ z, lo ≤ z → z ≤ hi → Q (.v (.int z)) A) : ∃ d, atI [D.v (.int a0), D.v (.int a1)] i = some d ∧ Q d A :=
  ⟨_, at_gI (L := [a0, a1]) h0 h1, k _ (gI_all (p := fun x => lo ≤ x) (fun x hx => by simp only [List.mem_cons, List.not_mem_nil, or_false] at hx; omega) h0 h1) (gI_all (p := fun x => x ≤ hi) (fun x hx => by simp only [List.mem_cons, List.not_mem_nil, or_false] at hx; omega) h0 h1)⟩
theorem at_rg3 (lo hi : Int) {a0 a1 a2 i : Int} {Q : KH} {A : OH} (h : (lo ≤ a0 ∧ a0 ≤ hi) ∧ (lo ≤ a1 ∧ a1 ≤ hi) ∧ (lo ≤ a2 ∧ a2 ≤ hi)) (h0 : 0 ≤ i) (h1 : i < 3) (k : ∀ z, lo ≤ z → z ≤ hi → Q (.v (.int z)) A) : ∃ d, atI [D.v (.int a0), D.v (.int a1), D.v (.int a2)] i = some d ∧ Q d A :=
  ⟨_, at_gI (L := [a0, a1, a2]) h0 h1, k _ (gI_all (p := fun x => lo ≤ x) (fun x hx => by simp only [List.mem_cons, List.not_mem_nil, or_false] at hx; omega) h0 h1) (gI_all (p := fun x => x ≤ hi) (fun x hx => by simp only [List.mem_cons, List.not_mem_nil, or_false] at hx; omega) h0 h1)⟩
theorem at_rg4 (lo hi : Int) {a0 a1 a2 a3 i : Int} {Q : KH} {A : OH} (h : (lo ≤ a0 ∧ a0 ≤ hi) ∧ (lo ≤ a1 ∧ a1 ≤ hi) ∧ (lo ≤ a2 ∧ a2 ≤ hi) ∧ (lo ≤ a3 ∧ a3 ≤ hi)) (h0 : 0 ≤ i) (h1 : i < 4) (k : ∀ z, lo ≤ z → z ≤ hi → Q (.v (.int z)) A) : ∃ d, atI [D.v (.int a0), D.v (.int a1), D.v (.int a2), D.v (.int a3)] i = some d ∧ Q d A :=
  ⟨_, at_gI (L := [a0, a1, a2, a3]) h0 h1, k _ (gI_all (p := fun x => lo ≤ x) (fun x hx => by simp only [List.mem_cons, List.not_mem_nil, or_false] at hx; omega) h0 h1) (gI_all (p := fun x => x ≤ hi) (fun x hx => by simp only [List.mem_cons, List.not_mem_nil, or_false] at hx; omega) h0 h1)⟩
theorem at_rg5 (lo hi : Int) {a0 a1 a2 a3 a4 i : Int} {Q : KH} {A : OH} (h : (lo ≤ a0 ∧ a0 ≤ hi) ∧ (lo ≤ a1 ∧ a1 ≤ hi) ∧ (lo ≤ a2 ∧ a2 ≤ hi) ∧ (lo ≤ a3 ∧ a3 ≤ hi) ∧ (lo ≤ a4 ∧ a4 ≤ hi)) (h0 : 0 ≤ i) (h1 : i < 5) (k : ∀ z, lo ≤ z → z ≤ hi → Q (.v (.int z)) A) : ∃ d, atI [D.v (.int a0), D.v (.int a1), D.v (.int a2), D.v (.int a3), D.v (.int a4)] i = some d ∧ Q d A :=
  ⟨_, at_gI (L := [a0, a1, a2, a3, a4]) h0 h1, k _ (gI_all (p := fun x => lo ≤ x) (fun x hx => by simp only [List.mem_cons, List.not_mem_nil, or_false] at hx; omega) h0 h1) (gI_all (p := fun x => x ≤ hi) (fun x hx => by simp only [List.mem_cons, List.not_mem_nil, or_false] at hx; omega) h0 h1)⟩
theorem at_rg6 (lo hi : Int) {a0 a1 a2 a3 a4 a5 i : Int} {Q : KH} {A : OH} (h : (lo ≤ a0 ∧ a0 ≤ hi) ∧ (lo ≤ a1 ∧ a1 ≤ hi) ∧ (lo ≤ a2 ∧ a2 ≤ hi) ∧ (lo ≤ a3 ∧ a3 ≤ hi) ∧ (lo ≤ a4 ∧ a4 ≤ hi) ∧ (lo ≤ a5 ∧ a5 ≤ hi)) (h0 : 0 ≤ i) (h1 : i < 6) (k : ∀ z, lo ≤ z → z ≤ hi → Q (.v (.int z)) A) : ∃ d, atI [D.v (.int a0), D.v (.int a1), D.v (.int a2), D.v (.int a3), D.v (.int a4), D.v (.int a5)] i = some d ∧ Q d A :=
  ⟨_, at_gI (L := [a0, a1, a2, a3, a4, a5]) h0 h1, k _ (gI_all (p := fun x => lo ≤ x) (fun x hx => by simp only [List.mem_cons, List.not_mem_nil, or_false] at hx; omega) h0 h1) (gI_all (p := fun x => x ≤ hi) (fun x hx => by simp only [List.mem_cons, List.not_mem_nil, or_false] at hx; omega) h0 h1)⟩
/-! ### if, both ways to one end -/
structure IfQ (C : (Bool → OH → Prop) → Prop) (T U : StQ → StQ) (N : StQ) (σ : SH) : Prop where
  h : ∃ P : StQ, C (fun b A1 => Br b (T P σ A1) (U P σ A1)) ∧ ∀ σ A, P σ A → N σ A
def jIf (c : TTh) (t u : TSh) : TSh := fun D σ A => IfQ (c σ A) (fun P => t { D with nx := P }) (fun P => u { D with nx := P }) D.nx σ
theorem psj_if {X : Cx} {pos : Pos} {c : Expr} {xs ys : List Stmt} {tc : TTh} {t u : TSh} (hc : PT X c (liftT X.K tc)) (ha : PSs X xs (liftS X.K t)) (hb : PSs X ys (liftS X.K u)) : PS X (.If c xs ys pos) (liftS X.K (jIf tc t u)) :=
  (ps_if hc ha hb).imp fun De σ H ⟨θ, σh, A, Dh, rs, ra, q, k⟩ => by
    obtain ⟨P, w, hP⟩ := q.h
    refine ⟨θ, σh, A, _, rs, ra, w, fun θ1 H1 A1 b e1 ra1 w1 => ?_⟩
    have kk : KS X.K θ1 H1 De { Dh with nx := P } := ⟨fun _ _ _ _ _ e rs ra q => (k.ext e1).nx _ _ _ _ _ e rs ra (hP _ _ q), (k.ext e1).rt, (k.ext e1).bk, (k.ext e1).ct⟩
    cases b with
    | true => exact ⟨θ1, σh, A1, _, rs.ext e1, ra1, w1.yes rfl, kk⟩
    | false => exact ⟨θ1, σh, A1, _, rs.ext e1, ra1, w1.no rfl, kk⟩
section
variable {C : (Bool → OH → Prop) → Prop} {T U : StQ → StQ} {N : StQ} {σ : SH}
theorem IfQ.go (h : C (fun b A1 => Br b (T N σ A1) (U N σ A1))) : IfQ C T U N σ := ⟨N, h, fun _ _ q => q⟩
theorem IfQ.s0 (J : OH → Prop) (h : C (fun b A1 => Br b (T (fun σ' A' => Lf (σ' = σ ∧ J  A')) σ A1) (U (fun σ' A' => Lf (σ' = σ ∧ J  A')) σ A1))) (hn : ∀  A, J  A → N σ A) : IfQ C T U N σ :=
  ⟨_, h, fun σ' A' q => by obtain ⟨e, j⟩ := q.h; rw [e]; exact hn  A' j⟩
theorem IfQ.s1 (p0 : Nat) (J : Option D → OH → Prop) (h : C (fun b A1 => Br b (T (fun σ' A' => Lf (∃ x0, σ' = (σ.set p0 x0) ∧ J x0 A')) σ A1) (U (fun σ' A' => Lf (∃ x0, σ' = (σ.set p0 x0) ∧ J x0 A')) σ A1))) (hn : ∀ x0 A, J x0 A → N (σ.set p0 x0) A) : IfQ C T U N σ :=
  ⟨_, h, fun σ' A' q => by obtain ⟨x0, e, j⟩ := q.h; rw [e]; exact hn x0 A' j⟩
theorem IfQ.s2 (p0 p1 : Nat) (J : Option D → Option D → OH → Prop) (h : C (fun b A1 => Br b (T (fun σ' A' => Lf (∃ x0 x1, σ' = ((σ.set p0 x0).set p1 x1) ∧ J x0 x1 A')) σ A1) (U (fun σ' A' => Lf (∃ x0 x1, σ' = ((σ.set p0 x0).set p1 x1) ∧ J x0 x1 A')) σ A1))) (hn : ∀ x0 x1 A, J x0 x1 A → N ((σ.set p0 x0).set p1 x1) A) : IfQ C T U N σ :=
  ⟨_, h, fun σ' A' q => by obtain ⟨x0, x1, e, j⟩ := q.h; rw [e]; exact hn x0 x1 A' j⟩
theorem IfQ.s3 (p0 p1 p2 : Nat) (J : Option D → Option D → Option D → OH → Prop) (h : C (fun b A1 => Br b (T (fun σ' A' => Lf (∃ x0 x1 x2, σ' = (((σ.set p0 x0).set p1 x1).set p2 x2) ∧ J x0 x1 x2 A')) σ A1) (U (fun σ' A' => Lf (∃ x0 x1 x2, σ' = (((σ.set p0 x0).set p1 x1).set p2 x2) ∧ J x0 x1 x2 A')) σ A1))) (hn : ∀ x0 x1 x2 A, J x0 x1 x2 A → N (((σ.set p0 x0).set p1 x1).set p2 x2) A) : IfQ C T U N σ :=
  ⟨_, h, fun σ' A' q => by obtain ⟨x0, x1, x2, e, j⟩ := q.h; rw [e]; exact hn x0 x1 x2 A' j⟩
theorem IfQ.s4 (p0 p1 p2 p3 : Nat) (J : Option D → Option D → Option D → Option D → OH → Prop) (h : C (fun b A1 => Br b (T (fun σ' A' => Lf (∃ x0 x1 x2 x3, σ' = ((((σ.set p0 x0).set p1 x1).set p2 x2).set p3 x3) ∧ J x0 x1 x2 x3 A')) σ A1) (U (fun σ' A' => Lf (∃ x0 x1 x2 x3, σ' = ((((σ.set p0 x0).set p1 x1).set p2 x2).set p3 x3) ∧ J x0 x1 x2 x3 A')) σ A1))) (hn : ∀ x0 x1 x2 x3 A, J x0 x1 x2 x3 A → N ((((σ.set p0 x0).set p1 x1).set p2 x2).set p3 x3) A) : IfQ C T U N σ :=
  ⟨_, h, fun σ' A' q => by obtain ⟨x0, x1, x2, x3, e, j⟩ := q.h; rw [e]; exact hn x0 x1 x2 x3 A' j⟩
theorem IfQ.s5 (p0 p1 p2 p3 p4 : Nat) (J : Option D → Option D → Option D → Option D → Option D → OH → Prop) (h : C (fun b A1 => Br b (T (fun σ' A' => Lf (∃ x0 x1 x2 x3 x4, σ' = (((((σ.set p0 x0).set p1 x1).set p2 x2).set p3 x3).set p4 x4) ∧ J x0 x1 x2 x3 x4 A')) σ A1) (U (fun σ' A' => Lf (∃ x0 x1 x2 x3 x4, σ' = (((((σ.set p0 x0).set p1 x1).set p2 x2).set p3 x3).set p4 x4) ∧ J x0 x1 x2 x3 x4 A')) σ A1))) (hn : ∀ x0 x1 x2 x3 x4 A, J x0 x1 x2 x3 x4 A → N (((((σ.set p0 x0).set p1 x1).set p2 x2).set p3 x3).set p4 x4) A) : IfQ C T U N σ :=
  ⟨_, h, fun σ' A' q => by obtain ⟨x0, x1, x2, x3, x4, e, j⟩ := q.h; rw [e]; exact hn x0 x1 x2 x3 x4 A' j⟩
theorem IfQ.s6 (p0 p1 p2 p3 p4 p5 : Nat) (J : Option D → Option D → Option D → Option D → Option D → Option D → OH → Prop) (h : C (fun b A1 => Br b (T (fun σ' A' => Lf (∃ x0 x1 x2 x3 x4 x5, σ' = ((((((σ.set p0 x0).set p1 x1).set p2 x2).set p3 x3).set p4 x4).set p5 x5) ∧ J x0 x1 x2 x3 x4 x5 A')) σ A1) (U (fun σ' A' => Lf (∃ x0 x1 x2 x3 x4 x5, σ' = ((((((σ.set p0 x0).set p1 x1).set p2 x2).set p3 x3).set p4 x4).set p5 x5) ∧ J x0 x1 x2 x3 x4 x5 A')) σ A1))) (hn : ∀ x0 x1 x2 x3 x4 x5 A, J x0 x1 x2 x3 x4 x5 A → N ((((((σ.set p0 x0).set p1 x1).set p2 x2).set p3 x3).set p4 x4).set p5 x5) A) : IfQ C T U N σ :=
  ⟨_, h, fun σ' A' q => by obtain ⟨x0, x1, x2, x3, x4, x5, e, j⟩ := q.h; rw [e]; exact hn x0 x1 x2 x3 x4 x5 A' j⟩
theorem IfQ.s7 (p0 p1 p2 p3 p4 p5 p6 : Nat) (J : Option D → Option D → Option D → Option D → Option D → Option D → Option D → OH → Prop) (h : C (fun b A1 => Br b (T (fun σ' A' => Lf (∃ x0 x1 x2 x3 x4 x5 x6, σ' = (((((((σ.set p0 x0).set p1 x1).set p2 x2).set p3 x3).set p4 x4).set p5 x5).set p6 x6) ∧ J x0 x1 x2 x3 x4 x5 x6 A')) σ A1) (U (fun σ' A' => Lf (∃ x0 x1 x2 x3 x4 x5 x6, σ' = (((((((σ.set p0 x0).set p1 x1).set p2 x2).set p3 x3).set p4 x4).set p5 x5).set p6 x6) ∧ J x0 x1 x2 x3 x4 x5 x6 A')) σ A1))) (hn : ∀ x0 x1 x2 x3 x4 x5 x6 A, J x0 x1 x2 x3 x4 x5 x6 A → N (((((((σ.set p0 x0).set p1 x1).set p2 x2).set p3 x3).set p4 x4).set p5 x5).set p6 x6) A) : IfQ C T U N σ :=
  ⟨_, h, fun σ' A' q => by obtain ⟨x0, x1, x2, x3, x4, x5, x6, e, j⟩ := q.h; rw [e]; exact hn x0 x1 x2 x3 x4 x5 x6 A' j⟩
theorem IfQ.s8 (p0 p1 p2 p3 p4 p5 p6 p7 : Nat) (J : Option D → Option D → Option D → Option D → Option D → Option D → Option D → Option D → OH → Prop) (h : C (fun b A1 => Br b (T (fun σ' A' => Lf (∃ x0 x1 x2 x3 x4 x5 x6 x7, σ' = ((((((((σ.set p0 x0).set p1 x1).set p2 x2).set p3 x3).set p4 x4).set p5 x5).set p6 x6).set p7 x7) ∧ J x0 x1 x2 x3 x4 x5 x6 x7 A')) σ A1) (U (fun σ' A' => Lf (∃ x0 x1 x2 x3 x4 x5 x6 x7, σ' = ((((((((σ.set p0 x0).set p1 x1).set p2 x2).set p3 x3).set p4 x4).set p5 x5).set p6 x6).set p7 x7) ∧ J x0 x1 x2 x3 x4 x5 x6 x7 A')) σ A1))) (hn : ∀ x0 x1 x2 x3 x4 x5 x6 x7 A, J x0 x1 x2 x3 x4 x5 x6 x7 A → N ((((((((σ.set p0 x0).set p1 x1).set p2 x2).set p3 x3).set p4 x4).set p5 x5).set p6 x6).set p7 x7) A) : IfQ C T U N σ :=
  ⟨_, h, fun σ' A' q => by obtain ⟨x0, x1, x2, x3, x4, x5, x6, x7, e, j⟩ := q.h; rw [e]; exact hn x0 x1 x2 x3 x4 x5 x6 x7 A' j⟩
end
/-! ### items -/
section
variable {α : Type} {f : α → D} {xs : List α} {i : Nat} {d : D}
theorem item_T (h : (srcT (xs.map f)).item i = some d) : ∃ x, xs[i]? = some x ∧ d = f x := by
  have h' : (xs.map f)[i]? = some d := h
  rw [List.getElem?_map] at h'
  obtain ⟨x, hx, rfl⟩ := Option.map_eq_some_iff.mp h'
  exact ⟨x, hx, rfl⟩
theorem item_L {k : Nat} (h : (srcL k (xs.map f)).item i = some d) : ∃ x, xs[i]? = some x ∧ d = f x := item_T h
theorem item_R {lo : Int} {n : Nat} (h : (srcR lo n).item i = some d) : d = .v (.int (lo + i)) := (Option.some.inj h).symm
theorem item_E {lv : OH → Prop} (h : (srcE (xs.map f) lv).item i = some d) : ∃ x, xs[i]? = some x ∧ d = .tup [.v (.int (i : Nat)), f x] := by
  have h' : ((xs.map f)[i]?).map (fun d => D.tup [.v (.int (i : Nat)), d]) = some d := h
  rw [List.getElem?_map] at h'
  cases e : xs[i]? with
  | none => rw [e] at h'; cases h'
  | some x => rw [e] at h'; exact ⟨x, rfl, (Option.some.inj h').symm⟩
theorem item_Z {β : Type} {g : β → D} {ys : List β} {lv : OH → Prop} (h : (srcZ (xs.map f) (ys.map g) lv).item i = some d) : ∃ x y, xs[i]? = some x ∧ ys[i]? = some y ∧ d = .tup [f x, g y] := by
  have h' : (match (xs.map f)[i]?, (ys.map g)[i]? with | some d, some e => some (D.tup [d, e]) | _, _ => none) = some d := h
  rw [List.getElem?_map, List.getElem?_map] at h'
  cases e : xs[i]? with
  | none => rw [e] at h'; cases h'
  | some x =>
    cases e2 : ys[i]? with
    | none => rw [e, e2] at h'; cases h'
    | some y => rw [e, e2] at h'; exact ⟨x, y, rfl, rfl, (Option.some.inj h').symm⟩
end
/-! ### comprehensions by a map -/
/-- what a source yields, by typed items -/
structure Itm {α : Type} (src : Src) (xs : List α) (f : α → D) : Prop where
  n : src.n = xs.length
  item : ∀ i, i < src.n → src.item i = (xs[i]?).map f
section
variable {α : Type} {f : α → D} {xs : List α}
theorem itm_T : Itm (srcT (xs.map f)) xs f := ⟨List.length_map _, fun i _ => List.getElem?_map⟩
theorem itm_L {k : Nat} : Itm (srcL k (xs.map f)) xs f := ⟨List.length_map _, fun i _ => List.getElem?_map⟩
theorem itm_T' {ds : List D} (h : ds = xs.map f) : Itm (srcT ds) xs f := by rw [h]; exact itm_T
theorem itm_L' {ds : List D} {k : Nat} (h : ds = xs.map f) : Itm (srcL k ds) xs f := by rw [h]; exact itm_L
theorem itm_I {ns : List Int} : Itm (srcI ns) ns fun n => .v (.int n) := ⟨rfl, fun i _ => rfl⟩
theorem itm_R {lo : Int} {n : Nat} : Itm (srcR lo n) ((List.range n).map fun i : Nat => lo + i) fun n => .v (.int n) := ⟨by show n = _; simp, fun i hi => by
  have hi' : i < n := hi
  show some _ = _
  rw [List.getElem?_map, List.getElem?_range hi']
  rfl⟩
theorem itm_E {lv : OH → Prop} : Itm (srcE (xs.map f) lv) xs.zipIdx fun p => .tup [.v (.int (p.2 : Nat)), f p.1] := ⟨by show (xs.map f).length = _; simp, fun i _ => by
  show ((xs.map f)[i]?).map _ = _
  rw [List.getElem?_map, List.getElem?_zipIdx]
  cases xs[i]? with
  | none => rfl
  | some x => show some _ = some _; rw [Nat.zero_add]⟩
theorem itm_Z {β : Type} {g : β → D} {ys : List β} {lv : OH → Prop} : Itm (srcZ (xs.map f) (ys.map g) lv) (xs.zip ys) fun p => .tup [f p.1, g p.2] := ⟨by show min (xs.map f).length (ys.map g).length = _; simp, fun i _ => by
  show (match (xs.map f)[i]?, (ys.map g)[i]? with | some d, some e => some (D.tup [d, e]) | _, _ => none) = _
  rw [List.getElem?_map, List.getElem?_map, List.zip, List.getElem?_zipWith]
  cases xs[i]? <;> cases ys[i]? <;> rfl⟩
variable {src : Src} {F : (D → OH → Prop) → (OH → Prop) → D → OH → Prop} {Q : KH} {A : OH}
/-- each item is mapped, some are left out; what is made on the way is said by J -/
theorem LcQ.mapJ (it : Itm src xs f) (J : OH → Prop) (p : α → Bool) (g : α → D) (hn : xs.length ≤ 100000) (h0 : J A) (hl : ∀ A, J A → src.live A)
    (hs : ∀ i x, i < xs.length → xs[i]? = some x → ∀ A (kt : D → OH → Prop) (kf : OH → Prop), J A → (p x = true → ∀ A', J A' → kt (g x) A') → (p x = false → ∀ A', J A' → kf A') → F kt kf (f x) A)
    (hq : ∀ A, J A → NewQ A (.lst ((xs.filter p).map g)) Q) : LcQ src F Q A :=
  ⟨fun i acc A' => acc = (((xs.take i).filter p).map g) ∧ J A', by rw [it.n]; exact hn, ⟨rfl, h0⟩, fun i acc A' _ ⟨_, j⟩ => hl A' j, fun i d acc A' hi hd ⟨e, j⟩ => by
    have hi' : i < xs.length := by rw [← it.n]; exact hi
    rw [it.item i hi, List.getElem?_eq_getElem hi'] at hd
    cases Option.some.inj hd
    refine hs i xs[i] hi' (List.getElem?_eq_getElem hi') A' _ _ j (fun c A2 j2 => ⟨?_, j2⟩) (fun c A2 j2 => ⟨?_, j2⟩)
    · rw [e, List.take_add_one, List.getElem?_eq_getElem hi', List.filter_append, List.map_append]
      simp [c]
    · rw [e, List.take_add_one, List.getElem?_eq_getElem hi', List.filter_append, List.map_append]
      simp [c], fun acc A' ⟨e, j⟩ => by
    rw [it.n, List.take_length] at e
    rw [e]
    exact hq A' j⟩
/-- none is left out -/
theorem LcQ.mapA (it : Itm src xs f) (J : OH → Prop) (g : α → D) (hn : xs.length ≤ 100000) (h0 : J A) (hl : ∀ A, J A → src.live A)
    (hs : ∀ i x, i < xs.length → xs[i]? = some x → ∀ A (kt : D → OH → Prop) (kf : OH → Prop), J A → (∀ A', J A' → kt (g x) A') → F kt kf (f x) A)
    (hq : ∀ A, J A → NewQ A (.lst (xs.map g)) Q) : LcQ src F Q A :=
  LcQ.mapJ it J (fun _ => true) g hn h0 hl (fun i x hi hx A kt kf j k1 _ => hs i x hi hx A kt kf j (k1 rfl)) fun A' j => by
    rw [List.filter_eq_self.mpr fun _ _ => rfl]
    exact hq A' j
/-- none is left out, and nothing is made -/
theorem LcQ.map0 (it : Itm src xs f) (g : α → D) (hn : xs.length ≤ 100000) (hl : src.live A)
    (hs : ∀ i x, i < xs.length → xs[i]? = some x → ∀ (kt : D → OH → Prop) (kf : OH → Prop), kt (g x) A → F kt kf (f x) A)
    (hq : NewQ A (.lst (xs.map g)) Q) : LcQ src F Q A :=
  LcQ.mapA it (fun A' => A' = A) g hn rfl (fun A' e => by rw [e]; exact hl) (fun i x hi hx A' kt kf e k1 => by subst e; exact hs i x hi hx kt kf (k1 _ rfl)) fun A' e => by rw [e]; exact hq
theorem LcQ.filter0 (it : Itm src xs f) (p : α → Bool) (g : α → D) (hn : xs.length ≤ 100000) (hl : src.live A)
    (hs : ∀ i x, i < xs.length → xs[i]? = some x → ∀ (kt : D → OH → Prop) (kf : OH → Prop), (p x = true → kt (g x) A) → (p x = false → kf A) → F kt kf (f x) A)
    (hq : NewQ A (.lst ((xs.filter p).map g)) Q) : LcQ src F Q A :=
  LcQ.mapJ it (fun A' => A' = A) p g hn rfl (fun A' e => by rw [e]; exact hl) (fun i x hi hx A' kt kf e k1 k2 => by subst e; exact hs i x hi hx kt kf (fun c => k1 c _ rfl) (fun c => k2 c _ rfl)) fun A' e => by rw [e]; exact hq
/-- each item's value is one of several -/
theorem LcQ.rel (J : OH → Prop) (R : Nat → D → Prop) (hn : src.n ≤ 100000) (h0 : J A) (hl : ∀ A, J A → src.live A)
    (hs : ∀ i d, i < src.n → src.item i = some d → ∀ A (kt : D → OH → Prop) (kf : OH → Prop), J A → (∀ e A', R i e → J A' → kt e A') → F kt kf d A)
    (hq : ∀ acc A, acc.length = src.n → (∀ i e, acc[i]? = some e → R i e) → J A → NewQ A (.lst acc) Q) : LcQ src F Q A :=
  ⟨fun i acc A' => acc.length = i ∧ (∀ i e, acc[i]? = some e → R i e) ∧ J A', hn, ⟨rfl, (fun _ _ z => by simp at z), h0⟩, fun i acc A' _ j => hl A' j.2.2, fun i d acc A' hi hd ⟨l, r, j⟩ => by
    refine hs i d hi hd A' _ _ j fun e A2 re j2 => ⟨by rw [List.length_append, l]; rfl, fun n u hu => ?_, j2⟩
    by_cases c : n < acc.length
    · rw [List.getElem?_append_left c] at hu
      exact r n u hu
    · rw [List.getElem?_append_right (by omega)] at hu
      have hz : n - acc.length = 0 := by
        have := (List.getElem?_eq_some_iff.mp hu).1
        simp at this
        omega
      rw [hz] at hu
      cases hu
      rw [show n = i by omega]
      exact re, fun acc A' ⟨l, r, j⟩ => hq acc A' l r j⟩
end
end Rp

/-! Calls without arguments, keywords in any order, constants of a module. -/
namespace Rp
open PySem PySem.Spec PyProof.Rows L2
/-- the class facts that isinstance asks of an own class -/
structure TyC (K : PySem.W.Frag) (C : Addr) : Prop where
  ca : PySem.W.findIn K (.ref C) "__class__" = some (some (.builtin "object.__class__"))
  cn : PySem.W.specialIn K (.builtin "object.__class__") "__get__" = some (some (.builtin "getset_descriptor.__get__"))
  ct : PySem.W.takesIn K (.builtin "object.__class__") = some true
  cm : PySem.W.mroIn K C (.type "object") = some true
structure LenK (K : PySem.W.Frag) (C fL : Addr) : Prop where
  find : PySem.W.findIn K (.ref C) "__len__" = some (some (.ref fL))
  fn : PySem.W.isFn K (.ref fL) = true
section
variable {X : Cx} {k n : Nat} {f C : Addr} {fd : FuncData} {ps : List Str} {sp : Sph} {x : Str} {p pos : Pos}
theorem ph_callO0 (F : FnOk X.prog X.w X.K X.mg X.base CX0 k f fd ps (spOf X.K n sp)) (room : Room k X.A) (hg : Gl X x) (hm : X.mg x = some (.ref f)) (hk : PySem.W.keepIn X.K (.ref f) = true) (hb : L2.Binds X.K fd ps [])
    (hdb : (x == ("__debug__" : Str)) = false := by decide) : PE X (.Call (.Name x p) [] [] pos) (lift X.K (hCall n sp hNil)) :=
  (pe_call0 (E := fun _ _ _ => False) F room hg hm hk hb .nil pass0 hdb).imp fun σ H Q ⟨θ, σh, A, Qh, rs, ra, w, k⟩ => by
    obtain ⟨hn, w⟩ := nArgs_ok w
    exact ⟨hn, θ, [], A, Qh, .nil, ra, w.h, k⟩
theorem ph_make0 (M : Mk X.K C f) (F : FnOk X.prog X.w X.K X.mg X.base CX0 k f fd ps (spOf X.K n sp)) (hr : Room (k + 1) X.A) (hg : Gl X x) (hm : X.mg x = some (.ref C)) (hb : L2.Binds X.K fd ps [])
    (hdb : (x == ("__debug__" : Str)) = false := by decide) : PE X (.Call (.Name x p) [] [] pos) (lift X.K (hMake C n sp hNil)) :=
  (pe_make0 (E := fun _ _ _ => False) M F hr hg hm hb .nil pass0 hdb).imp fun σ H Q ⟨θ, σh, A, Qh, rs, ra, w, k⟩ x dx hx hdx ne => by
    obtain ⟨hn, w⟩ := nArgs_ok w
    have hs : Same H (upd (upd H dx (.own x)) x (.ins C dx [])) := fun b u e => by rw [upd_ne (ne_of_none e hx), upd_ne (ne_of_none e hdx)]; exact e
    have hi : (θ ++ [x])[A.length]? = some x := by rw [← ra.len]; simp
    have e2 : Ext θ H (θ ++ [x]) (upd (upd H dx (.own x)) x (.ins C dx [])) := .add hx hs
    refine ⟨hn, θ ++ [x], [.ptr A.length], A ++ [.ins C []], _, .cons (.ptr hi) .nil, ra.add (o := .ins C []) hx hs ⟨dx, [], upd_same, by rw [upd_ne ne, upd_same], .nil⟩, (w _ _ ⟨rfl, rfl⟩).h, fun θ3 H3 A3 v d e3 ra3 r3 q3 => ?_⟩
    obtain ⟨rfl, q⟩ := q3
    cases r3
    exact ⟨rfl, k _ _ _ _ _ (e2.trans e3) ra3 ((RD.ptr hi).ext e3) q⟩
/-- a constant of the module -/
theorem ph_k {v : V} (hg : Gl X x) (h : ∃ u, X.mg x = some u ∧ RelV v u) (hd : (x == ("__debug__" : Str)) = false := by decide) : PE X (.Name x pos) (lift X.K (hC (.v v))) := by
  obtain ⟨u, hm, r⟩ := h
  exact ph_c (pe_glob hg hm r hd)
end
/-! ### o.f = v -/
def shortL {α : Type} : List α → Nat → Prop
  | [], _ => True
  | _ :: r, n + 1 => shortL r n
  | _, 0 => False
theorem shortL.lt {α : Type} : ∀ {xs : List α} {n : Nat}, shortL xs n → xs.length ≤ n
  | [], _, _ => Nat.zero_le _
  | _ :: r, n + 1, h => Nat.succ_le_succ (shortL.lt (xs := r) h)
  | _ :: _, 0, h => h.elim
def jSetF (C : Addr) (ta tv : TEh) (f : Str) : TSh := fun D σ A => tv σ A fun y A1 => ta σ A1 fun x A2 => match x with
  | .ptr k => ∃ fs, A2[k]? = some (.ins C fs) ∧ shortL fs 900 ∧ PutQ A2 k (.ins C (putD f y fs)) (D.nx σ)
  | _ => False
theorem psj_fld {X : Cx} {C : Addr} {o value : Expr} {f : Str} {pos pos' : Pos} {ta tv : TEh} (c : Cls X.K C) (n : NoAttr X.K C f) (ha : PE X o (lift X.K ta)) (hv : PE X value (lift X.K tv)) (hs : swapsWith value (some (.Attribute o f pos')) pos.line X.env = pure false) : PS X (.Assign [.Attribute o f pos'] value pos) (liftS X.K (jSetF C ta tv f)) :=
  (ps_fld ha hv hs).imp fun De σ H ⟨θ, σh, A, Dh, rs, ra, w, k⟩ => ⟨θ, σh, A, _, rs, ra, w, fun θ1 H1 A1 y dy e1 ra1 r1 w1 => ⟨θ1, σh, A1, _, rs.ext e1, ra1, w1, fun θ2 H2 A2 x dx e2 ra2 r2 w2 => by
    split at w2
    · rename_i kk
      obtain ⟨fs, h1, w3, w4⟩ := w2
      cases r2 with
      | @ptr _ a hi =>
        obtain ⟨dx, xs, g, hd, rf⟩ := ra2.ok _ _ _ hi h1
        have mu : Mu (H2 a) := by rw [g]; exact True.intro
        have e3 := Ext.put (u := .ins C dx (putF f y xs)) (List.mem_of_getElem? hi) mu
        have ne : dx ≠ a := ne_of hd g (by intro z; cases z)
        refine ⟨_, C, dx, xs, rfl, g, c, n, by have := w3.lt; rw [rf.length]; omega, k.nx _ _ _ _ _ ((e1.trans e2).trans e3) (((rs.ext e1).ext e2).ext e3) (ra2.put (o' := .ins C (putD f dy fs)) hi h1 mu ⟨dx, _, upd_same, by rw [upd_ne ne]; exact hd, RF.put ((r1.ext e2).ext e3) (rf.stab0 (stab_put mu))⟩) (w4 _ ⟨(List.getElem?_eq_some_iff.mp h1).1, rfl⟩)⟩
    · exact w2.elim⟩⟩
/-! ### keywords in any order, some left out -/
def mixP {α : Type} (pat : List (Nat ⊕ Nat)) (us mv ws : List α) : List α := us ++ pat.filterMap fun
  | .inl i => mv[i]?
  | .inr j => ws[j]?
theorem vals_mix {vs mz zs : List V} {us mv ws : List Value} (pat : List (Nat ⊕ Nat)) (r : Vals vs us) (rm : Vals mz mv) (rz : Vals zs ws) : Vals (mixP pat vs mz zs) (mixP pat us mv ws) := by
  unfold mixP
  refine r.append ?_
  induction pat with
  | nil => exact .nil
  | cons p pat ih =>
    rw [List.filterMap_cons, List.filterMap_cons]
    have one : ∀ {xs : List V} {ys : List Value} (i : Nat), Vals xs ys → (xs[i]? = none ∧ ys[i]? = none) ∨ ∃ x y, xs[i]? = some x ∧ ys[i]? = some y ∧ RelV x y := fun {xs ys} i r => by
      cases e : xs[i]? with
      | none => exact .inl ⟨rfl, r.none_of e⟩
      | some x => obtain ⟨u, hu, ru⟩ := r.get e; exact .inr ⟨x, u, rfl, hu, ru⟩
    rcases p with i | j
    · rcases one i rm with ⟨h1, h2⟩ | ⟨x, y, h1, h2, h3⟩
      · simp only [h1, h2]; exact ih
      · simp only [h1, h2]; exact .cons h3 ih
    · rcases one j rz with ⟨h1, h2⟩ | ⟨x, y, h1, h2, h3⟩
      · simp only [h1, h2]; exact ih
      · simp only [h1, h2]; exact .cons h3 ih
theorem rds_mix {K : PySem.W.Frag} {θ : List Addr} {H : Hp} {vs mz zs : List V} {ds md es : List D} (pat : List (Nat ⊕ Nat)) (r : RDs K θ H vs ds) (rm : RDs K θ H mz md) (rz : RDs K θ H zs es) : RDs K θ H (mixP pat vs mz zs) (mixP pat ds md es) := by
  unfold mixP
  refine r.append ?_
  induction pat with
  | nil => exact .nil
  | cons p pat ih =>
    rw [List.filterMap_cons, List.filterMap_cons]
    have one : ∀ {xs : List V} {ys : List D} (i : Nat), RDs K θ H xs ys → (xs[i]? = none ∧ ys[i]? = none) ∨ ∃ x y, xs[i]? = some x ∧ ys[i]? = some y ∧ RD K θ H x y := fun {xs ys} i r => by
      by_cases c : i < xs.length
      · obtain ⟨d, hd, rd⟩ := r.get' (List.getElem?_eq_getElem c)
        exact .inr ⟨_, d, List.getElem?_eq_getElem c, hd, rd⟩
      · exact .inl ⟨List.getElem?_eq_none (by omega), List.getElem?_eq_none (by rw [← r.length]; omega)⟩
    rcases p with i | j
    · rcases one i rm with ⟨h1, h2⟩ | ⟨x, y, h1, h2, h3⟩
      · simp only [h1, h2]; exact ih
      · simp only [h1, h2]; exact .cons h3 ih
    · rcases one j rz with ⟨h1, h2⟩ | ⟨x, y, h1, h2, h3⟩
      · simp only [h1, h2]; exact ih
      · simp only [h1, h2]; exact .cons h3 ih
theorem kwd_mix {pat : List (Nat ⊕ Nat)} {mz : List V} : KwD (fun vs zs => mixP pat vs mz zs) (fun ds es => mixP pat ds (mz.map D.v) es) := ⟨fun r1 r2 => rds_mix pat r1 (RDs.scalV mz) r2⟩
end Rp

/-! all, any, in, not in, over data; isinstance by the kind. -/
namespace Rp
open PySem PySem.Spec PyProof.Rows L2
abbrev dB (bs : List Bool) : List D := bs.map fun b => .v (.bl b)
section
variable {K : PySem.W.Frag} {X : Cx}
def hAll : List D → OH → KH → Prop
  | [.ptr k], A, Q => ∃ bs, A[k]? = some (.lst (dB bs)) ∧ Q (.v (.bl (bs.all id))) A
  | _, _, _ => False
theorem l_all : LC K (rAll K) hAll := by
  intro θ H A xs ds Q Qh r ra w k
  unfold hAll at w
  split at w
  · obtain ⟨bs, h0, q⟩ := w
    obtain ⟨x, rfl, rx⟩ := r.one
    cases rx with
    | ptr hi =>
      obtain ⟨xs, g, r'⟩ := ra.ok _ _ _ hi h0
      rw [r'.of_scal V.bl] at g
      exact ⟨_, bs, rfl, SqL.of g, k.here ra (.v _) q⟩
  · exact w.elim
def hAny : List D → OH → KH → Prop
  | [.ptr k], A, Q => ∃ bs, A[k]? = some (.lst (dB bs)) ∧ Q (.v (.bl (bs.any id))) A
  | _, _, _ => False
theorem l_any : LC K (rAny K) hAny := by
  intro θ H A xs ds Q Qh r ra w k
  unfold hAny at w
  split at w
  · obtain ⟨bs, h0, q⟩ := w
    obtain ⟨x, rfl, rx⟩ := r.one
    cases rx with
    | ptr hi =>
      obtain ⟨xs, g, r'⟩ := ra.ok _ _ _ hi h0
      rw [r'.of_scal V.bl] at g
      exact ⟨_, bs, rfl, SqL.of g, k.here ra (.v _) q⟩
  · exact w.elim
/-- x in .., flat things -/
def hInF (neg : Bool) : R2h
  | .v x, .tup ds, A, Q => ∃ xs : List V, ds = xs.map D.v ∧ flatV x = true ∧ xs.all flatV = true ∧ Q (.v (.bl (if neg then !inV x xs else inV x xs))) A
  | .v x, .ptr k, A, Q => ∃ xs : List V, A[k]? = some (.lst (xs.map D.v)) ∧ flatV x = true ∧ xs.all flatV = true ∧ Q (.v (.bl (if neg then !inV x xs else inV x xs))) A
  | _, _, _, _ => False
theorem l_inF {neg : Bool} : LR K (rIn K neg) (hInF neg) := by
  intro θ H A x y d e Q Qh rd re ra w k
  unfold hInF at w
  split at w
  · obtain ⟨xs, rfl, h1, h2, q⟩ := w
    cases rd
    cases re with
    | tup hs r =>
      have e : _ = xs.map id := RDs.of_scal id r
      rw [List.map_id] at e
      rw [e] at hs
      exact ⟨_, xs, rfl, .inr hs, h1, h2, k.here ra (.v _) q⟩
  · obtain ⟨xs, h0, h1, h2, q⟩ := w
    cases rd
    cases re with
    | ptr hi =>
      obtain ⟨ys, g, r⟩ := ra.ok _ _ _ hi h0
      have e : ys = xs.map id := RDs.of_scal id r
      rw [List.map_id] at e
      rw [e] at g
      exact ⟨_, xs, rfl, .inl (SqL.of g), h1, h2, k.here ra (.v _) q⟩
  · exact w.elim
theorem inV_ints (i : Int) (ns : List Int) : inV (.int i) (ns.map V.int) = decide (i ∈ ns) := by
  unfold inV
  induction ns with
  | nil => rfl
  | cons n ns ih =>
    rw [List.map_cons, List.any_cons, ih, Bool.eq_iff_iff]
    simp only [Bool.or_eq_true, decide_eq_true_eq, List.mem_cons]
    have : eqV (.int n) (.int i) = true ↔ i = n := by
      show (n == i) = true ↔ _
      rw [beq_iff_eq]
      exact ⟨Eq.symm, Eq.symm⟩
    rw [this]
theorem flat_ints (ns : List Int) : (ns.map V.int).all flatV = true := by
  rw [List.all_eq_true]
  intro x hx
  obtain ⟨n, _, rfl⟩ := List.mem_map.mp hx
  rfl
end
/-! ### isinstance by the kind -/
theorem tyd_ins {K : PySem.W.Frag} {A : OH} {k : Nat} {C : Addr} {fs : List (Str × D)} (cl : Cls K C) (t : TyC K C) (h : A[k]? = some (.ins C fs)) : TyD K A (.ptr k) (.ref C) := .ins h cl t.ca t.cn t.ct t.cm
theorem kit_int_int {K : PySem.W.Frag} : PySem.W.kitOne K (.type "int") (.type "int") = some true := by rfl
theorem kit_bool_int {K : PySem.W.Frag} : PySem.W.kitOne K (.type "bool") (.type "int") = some true := by rfl
theorem kit_bool_bool {K : PySem.W.Frag} : PySem.W.kitOne K (.type "bool") (.type "bool") = some true := by rfl
theorem kit_int_bool {K : PySem.W.Frag} : PySem.W.kitOne K (.type "int") (.type "bool") = some false := by rfl
theorem kit_tup_tup {K : PySem.W.Frag} : PySem.W.kitOne K (.type "tuple") (.type "tuple") = some true := by rfl
theorem kit_lst_tup {K : PySem.W.Frag} : PySem.W.kitOne K (.type "list") (.type "tuple") = some false := by rfl
theorem kit_str_int {K : PySem.W.Frag} : PySem.W.kitOne K (.type "str") (.type "int") = some false := by rfl
end Rp

namespace Rp
open PySem PySem.Spec PyProof.Rows L2
/-! ### the law's call, the guards known -/
section
variable {P : Program} {w : World} {K : PySem.W.Frag} {mg mb : Str → Option Value} {CX : CXT} {k : Nat} {fa a : Addr} {fd : FuncData} {x : Str} {sp : Sp} {s : Shared} {vs : List Value} {ns : List Int}
/-- from one abstract heap that holds the script at most -/
theorem law_coreG {H : Hp} (inK : K.In s.heap) (gl : s.heap.Ns mainGlobals mg) (bn : s.heap.Ns builtinsNs mb) (boot : ∀ y : Str, y ≠ "__name__" → mb y = bootBuiltins y) (lim : s.heap.NoLimit) (gens : s.gens = #[])
    (at_ : s.heap.get? a = some { cls := .type "list", data := .seq vs.toArray }) (room : Room k callerA)
    (F : ∀ base : Heap, K.In base → base.Ns mainGlobals mg → FnG P w K mg base CX k fa fd [x] sp) (bind : ∀ (s : Shared) (u : Value), BindsTo s fd ⟨[u], []⟩ [(x, u)])
    (one : ∀ b, H b = none ∨ ∃ o xs, H b = some (.frz o (.lst xs))) (ok : HOk P w H s.heap) (alone : ∀ b, H b ≠ none → b = a) (apart : H a ≠ none → K.lookup a = none)
    (keeps : sp [.ref a] H (fun v _ => v = .bl true) fun _ _ _ => False) (noX : ∀ e s', CX [] H s (fun _ _ _ => False) e s' → False) :
    codeAny (model P w) callerA (.call (.ref fa) ⟨[.ref a], []⟩) (fun r s' => r = .ok (.ret (.bool true)) ∧ OldK s.heap s'.heap ∧ s'.os = s.os ∧ AllBare s'.gens) s := by
  have noDict : ∀ {b : Addr} {o : Obj} {es : Array DictEntry} {ep : Nat}, s.heap.get? b = some o → o.data = .dict es ep → H b = none := fun {b o es ep} e d => by
    by_cases q : H b = none
    · exact q
    · have z := alone b q
      subst z
      rw [at_] at e
      cases e
      cases d
  have ns' : ∀ {b : Addr} {m : Str → Option Value}, s.heap.Ns b m → (hidT s.heap H).Ns b m := fun {b m} ⟨o, es, ep, e, d, r⟩ => ⟨o, es, ep, hidT_get e (noDict e d), d, r⟩
  have inB : K.In (hidT s.heap H) := fun b o e => hidT_get (inK b o e) (by
    by_cases q : H b = none
    · exact q
    · have z := alone b q
      subst z
      rw [apart q] at e
      cases e)
  obtain ⟨mc, lim1, lim2⟩ := lim
  have md : Mod K mg (hidT s.heap H) := ⟨inB, ns' gl, ⟨mb, ns' bn, boot⟩, ⟨mc, ns' lim1, lim2⟩⟩
  have en : Env0 P w K mg (hidT s.heap H) callerA [] s H := ⟨rfl, md, fun b o e => of_hidT e, Nat.le_of_eq (hidT_size _ _), trivial, fun b z => absurd z List.not_mem_nil, ok, .of_eq gens⟩
  refine codeAny_mono ((F _ inB (ns' gl)).go callerA [] s H ⟨[.ref a], []⟩ [.ref a] [.ref a] _ _ rfl room en (bind s (.ref a)) (.cons rfl .nil) keeps) fun r s' hr => ?_
  rcases r with e | fl
  · exact (noX e s' hr).elim
  · cases fl with
    | ret u =>
      obtain ⟨v, H', os, bare, un, ok', rv, rfl⟩ := hr
      cases rv
      refine ⟨rfl, OldK.of_keep fun b o e => ?_, os, bare⟩
      rcases one b with q | ⟨ob, xs, q⟩
      · exact un.keep b o e q (fun z => by cases z) (fun z => by cases z)
      · have e1 := (ok b _ q).1
        have e2 := (ok' b _ (un.frzs b ob _ q)).1
        rw [e] at e1
        cases e1
        exact e2
    | next => exact hr.elim
    | brk => exact hr.elim
    | cont => exact hr.elim
theorem law_callG (inK : K.In s.heap) (gl : s.heap.Ns mainGlobals mg) (bn : s.heap.Ns builtinsNs mb) (boot : ∀ y : Str, y ≠ "__name__" → mb y = bootBuiltins y) (lim : s.heap.NoLimit) (gens : s.gens = #[])
    (at_ : s.heap.get? a = some { cls := .type "list", data := .seq vs.toArray }) (hin : IntsAre vs ns) (few : ns.length ≤ sizeLine) (room : Room k callerA)
    (F : ∀ base : Heap, K.In base → base.Ns mainGlobals mg → FnG P w K mg base CX k fa fd [x] sp) (bind : ∀ (s : Shared) (u : Value), BindsTo s fd ⟨[u], []⟩ [(x, u)])
    (keeps : ∀ H : Hp, Only H → SqL K H a (ns.map V.int) → sp [.ref a] H (fun v _ => v = .bl true) fun _ _ _ => False) (noX : ∀ H e s', CX [] H s (fun _ _ _ => False) e s' → False) :
    codeAny (model P w) callerA (.call (.ref fa) ⟨[.ref a], []⟩) (fun r s' => r = .ok (.ret (.bool true)) ∧ OldK s.heap s'.heap ∧ s'.os = s.os ∧ AllBare s'.gens) s := by
  have rel := vals_ints hin
  cases lk : K.lookup a with
  | some o =>
    have e := inK a o lk
    rw [at_] at e
    cases e
    refine law_coreG (H := fun _ => none) inK gl bn boot lim gens at_ room F bind (fun _ => .inl rfl) (fun b u z => by cases z) (fun b z => (z rfl).elim) (fun z => (z rfl).elim) (keeps _ (fun _ => .inl rfl) ?_) (noX _)
    exact .inr ⟨_, vs.toArray, _, lk, rfl, rfl, rfl, by rw [List.size_toArray, hin.length]; exact few, by simpa using rel⟩
  | none =>
    have here : (fun b => if b = a then some (HO.frz { cls := .type "list", data := .seq vs.toArray } (.lst (ns.map V.int))) else none) a = some (HO.frz { cls := .type "list", data := .seq vs.toArray } (.lst (ns.map V.int))) := if_pos rfl
    have only : ∀ b, (fun b => if b = a then some (HO.frz { cls := .type "list", data := .seq vs.toArray } (.lst (ns.map V.int))) else none) b = none ∨ ∃ o xs, (fun b => if b = a then some (HO.frz { cls := .type "list", data := .seq vs.toArray } (.lst (ns.map V.int))) else none) b = some (.frz o (.lst xs)) := fun b => by
      by_cases q : b = a
      · exact .inr ⟨_, _, if_pos q⟩
      · exact .inl (if_neg q)
    refine law_coreG inK gl bn boot lim gens at_ room F bind only (fun b u z => ?_) (fun b z => ?_) (fun _ => lk) (keeps _ only (.inl (.inr ⟨_, here⟩))) (noX _)
    · by_cases q : b = a
      · subst q
        have z' := here.symm.trans z
        cases z'
        exact ⟨at_, by rw [List.length_map]; exact few, vs, 0, rel, at_⟩
      · rw [if_neg q] at z
        cases z
    · by_cases q : b = a
      · exact q
      · exact (z (if_neg q)).elim
end
/-- the end of a row: the written part's facts, the law's def, its promise -/
theorem walkG {l : PySem.W.OpenLaw} {n k : Nat} {q : Program} {loose : List Str} {XP : (Str → Option Value) → Heap → Prop} {YP : World → Heap → Prop} {d : DefRec} {K : Params → PySem.W.Frag} {CX : World → CXT} {sp : PySem.W.Frag → Sp} {x : Str}
    (hn : l.most = some n) (hn2 : n ≤ sizeLine) (hdf : d.params.defaults = []) (room : Room k callerA) (hY : ∀ (w : World) (h : Heap), YP w h → (K w.params).In h)
    (F : ∀ (w : World) (mg : Str → Option Value) (fa : Addr) (h : Heap), (K w.params).In h → h.Ns mainGlobals mg → mg d.name = some (.ref fa) →
      ∃ fd : FuncData, (∀ (s : Shared) (u : Value), BindsTo s fd ⟨[u], []⟩ [(x, u)]) ∧ ∀ base : Heap, (K w.params).In base → base.Ns mainGlobals mg → FnG l.prog w (K w.params) mg base (CX w) k fa fd [x] (sp (K w.params)))
    (keeps : ∀ (K : PySem.W.Frag) (H : Hp) (a : Addr) (ns : List Int), ns.length ≤ n → Only H → SqL K H a (ns.map V.int) → sp K [.ref a] H (fun v _ => v = .bl true) fun _ _ _ => False)
    (noX : ∀ (w : World) (H : Hp) (s : Shared) (e : Value) (s' : Shared), CX w [] H s (fun _ _ _ => False) e s' → False) : PySem.W.WalkO q loose XP YP l.row.toRowW d [] (fun f vs => PySem.call f vs) := by
  refine Att.attach_call hn hdf fun w s0 s1 mg mb fa o pm cd doc a vs ns G Y _ _ _ hmg hobj hints hlen hg => ?_
  obtain ⟨fd, hb, hF⟩ := F w mg fa _ (hY w _ Y) G.T.g hmg
  exact law_callG (hY w _ Y) G.T.g G.T.b G.T.builtins G.T.nolimit hg hobj hints (Nat.le_trans hlen hn2) room hF hb (fun H only sq => keeps (K w.params) H a ns hlen only sq) fun H e s' => noX w H s1 e s'
/-! ### small data may be shown -/
structure Sm (n : Nat) (d : PyData) : Prop where
  ls : d.leavesShort 40 = true
  sh : d.showable = true
  nd : d.hasDict = false
  dp : d.depth ≤ n
  wt : d.weight ≤ 4 ^ n * 64
theorem Sm.shw {n : Nat} {d : PyData} (h : Sm n d) (hn : n ≤ 6) : Shw d := by
  refine ⟨h.sh, h.nd, by have := h.dp; omega, ?_⟩
  have q := PyData.shown_le 40 (by decide) d h.ls
  have w := h.wt
  have m : (4 : Nat) ^ n ≤ 4 ^ 6 := Nat.pow_le_pow_right (by decide) hn
  have e : sizeLine = 16777216 := rfl
  rw [e]
  have : (4 : Nat) ^ 6 = 4096 := by decide
  omega
end Rp

/-! Small data: what may be shown and compared. -/
namespace Rp
open PySem PySem.Spec PyProof.Rows L2
theorem lg2_lt {n k : Nat} (hk : 0 < k) (h : n < 2 ^ k) : n.log2 < k := by
  by_cases z : n = 0
  · rw [z]
    exact hk
  · exact (Nat.log2_lt z).mpr h
structure Sw (n b : Nat) (d : PyData) : Prop where
  cl : d.canLay0 = true
  dp : d.depth ≤ n
  ls : d.leavesShort 80 = true
  sh : d.showable = true
  bk : d.bulk ≤ b
structure Sws (n b : Nat) (ds : List PyData) : Prop where
  cl : PyData.canLayAll0 ds = true
  dp : PyData.depthAll ds ≤ n
  ls : PyData.leavesShortAll 80 ds = true
  sh : PyData.showableAll ds = true
  bk : PyData.bulkAll ds ≤ b
theorem Sw.shw {n b : Nat} {d : PyData} (h : Sw n b d) (hn : n ≤ 16) (hb : b ≤ 150000) : Shw d := by
  refine ⟨h.sh, PyData.hasDict_of_canLay d h.cl, Nat.le_trans h.dp hn, ?_⟩
  have q := PyData.shown_le_bulk 80 (by decide) d h.ls
  have w := h.bk
  have e : sizeLine = 16777216 := rfl
  rw [e]
  omega
theorem Sw.shaped {n b : Nat} {d : PyData} (h : Sw n b d) (hn : n ≤ 64) : SeqAt.shaped d = true := by
  unfold SeqAt.shaped
  rw [h.cl, decide_eq_true (Nat.le_trans h.dp hn)]
  rfl
theorem Sw.int {n b : Nat} {i : Int} (h : -(2 ^ 75) ≤ i ∧ i ≤ 2 ^ 75) : Sw n b (.int i) := by
  have h' : i.natAbs < 2 ^ 76 := by omega
  have l := lg2_lt (by decide) h'
  refine ⟨by simp only [PyData.canLay0], by simp only [PyData.depth]; exact Nat.zero_le _, ?_, by simpa only [PyData.showable] using decide_eq_true (Nat.lt_trans l (by decide)), by simp only [PyData.bulk]; exact Nat.zero_le _⟩
  simp only [PyData.leavesShort, PyData.shown, decide_eq_true_eq, PySem.ofString_length]
  have q := int_text_length_le (a := i) (k := 76) (by decide) l
  omega
theorem Sw.bl {n c : Nat} {b : Bool} : Sw n c (.bool b) := ⟨rfl, Nat.zero_le _, rfl, rfl, Nat.zero_le _⟩
theorem Sw.non {n c : Nat} : Sw n c .none := ⟨rfl, Nat.zero_le _, rfl, rfl, Nat.zero_le _⟩
theorem Sw.str {n b : Nat} {x : Str} (h : PyData.strOk x = true) (hn : x.cps.size ≤ b) : Sw n b (.str x) := by
  have c : (PyData.str x).canLay0 = true := by simpa only [PyData.canLay0] using h
  exact ⟨c, by simp only [PyData.depth]; exact Nat.zero_le _, PyData.leavesShort_of_canLay0 80 _ c (by simp only [PyData.intsShort]), by simp only [PyData.showable], by simpa only [PyData.bulk] using hn⟩
theorem Sws.nil {n b : Nat} : Sws n b [] := ⟨rfl, Nat.zero_le _, rfl, rfl, Nat.zero_le _⟩
theorem Sws.cons {n b c : Nat} {d : PyData} {ds : List PyData} (h : Sw n b d) (t : Sws n c ds) : Sws n (b + 1 + c) (d :: ds) :=
  ⟨by simp only [PyData.canLayAll0, h.cl, t.cl, Bool.and_self], by simp only [PyData.depthAll]; have := h.dp; have := t.dp; omega, by simp only [PyData.leavesShortAll, h.ls, t.ls, Bool.and_self], by simp only [PyData.showableAll, h.sh, t.sh, Bool.and_self],
    by simp only [PyData.bulkAll]; have := h.bk; have := t.bk; omega⟩
theorem Sws.tup {n b : Nat} {ds : List PyData} (t : Sws n b ds) : Sw (n + 1) b (.tuple ds) := ⟨by simpa only [PyData.canLay0] using t.cl, by simp only [PyData.depth]; have := t.dp; omega, by simpa only [PyData.leavesShort] using t.ls, by simpa only [PyData.showable] using t.sh, by simpa only [PyData.bulk] using t.bk⟩
theorem Sws.lst {n b : Nat} {ds : List PyData} (t : Sws n b ds) : Sw (n + 1) b (.list ds) := ⟨by simpa only [PyData.canLay0] using t.cl, by simp only [PyData.depth]; have := t.dp; omega, by simpa only [PyData.leavesShort] using t.ls, by simpa only [PyData.showable] using t.sh, by simpa only [PyData.bulk] using t.bk⟩
theorem Sws.mono {n b c : Nat} {ds : List PyData} (t : Sws n b ds) (h : b ≤ c) : Sws n c ds := ⟨t.cl, t.dp, t.ls, t.sh, Nat.le_trans t.bk h⟩
theorem Sw.mono {n b c : Nat} {d : PyData} (t : Sw n b d) (h : b ≤ c) : Sw n c d := ⟨t.cl, t.dp, t.ls, t.sh, Nat.le_trans t.bk h⟩
structure Dw (A : OH) (n b : Nat) (d : D) (p : PyData) : Prop where
  dp : DP A d p
  sw : Sw n b p
structure Dws (A : OH) (n b : Nat) (ds : List D) (ps : List PyData) : Prop where
  dp : DPs A ds ps
  sw : Sws n b ps
section
variable {A : OH} {n b c : Nat} {d e : D} {p q : PyData} {ds : List D} {ps : List PyData}
theorem Dw.int {i : Int} (h : -(2 ^ 75) ≤ i ∧ i ≤ 2 ^ 75) : Dw A n 0 (.v (.int i)) (.int i) := ⟨.int _, .int h⟩
theorem Dw.bl {x : Bool} : Dw A n 0 (.v (.bl x)) (.bool x) := ⟨.bl _, .bl⟩
theorem Dw.non : Dw A n 0 (.v .non) .none := ⟨.non, .non⟩
theorem Dw.str {x : Str} (h : PyData.strOk x = true) : Dw A n x.cps.size (.v (.str x)) (.str x) := ⟨.str _, .str h (Nat.le_refl _)⟩
theorem Dw.tup (t : Dws A n b ds ps) : Dw A (n + 1) b (.tup ds) (.tuple ps) := ⟨.tup t.dp, t.sw.tup⟩
theorem Dw.lst {k : Nat} (h : A[k]? = some (.lst ds)) (t : Dws A n b ds ps) : Dw A (n + 1) b (.ptr k) (.list ps) := ⟨.lst h t.dp, t.sw.lst⟩
theorem Dws.nil : Dws A n 0 [] [] := ⟨.nil, .nil⟩
theorem Dws.cons (h : Dw A n b d p) (t : Dws A n c ds ps) : Dws A n (b + 1 + c) (d :: ds) (p :: ps) := ⟨.cons h.dp t.dp, .cons h.sw t.sw⟩
theorem Dws.mono (t : Dws A n b ds ps) (h : b ≤ c) : Dws A n c ds ps := ⟨t.dp, t.sw.mono h⟩
theorem Dws.map {α : Type} {f : α → D} {g : α → PyData} : ∀ {xs : List α}, (∀ x ∈ xs, Dw A n b (f x) (g x)) → Dws A n (xs.length * (b + 1)) (xs.map f) (xs.map g)
  | [], _ => ⟨.nil, .nil⟩
  | x :: xs, h => by
    have := (Dws.cons (h x List.mem_cons_self) (Dws.map (xs := xs) fun y hy => h y (List.mem_cons_of_mem _ hy))).mono (c := (x :: xs).length * (b + 1)) (by rw [List.length_cons, Nat.succ_mul]; omega)
    exact this
theorem Dws.ints {ns : List Int} (h : ∀ i ∈ ns, -(2 ^ 75) ≤ i ∧ i ≤ 2 ^ 75) : Dws A n (ns.length * 1) (dI ns) (ns.map .int) := Dws.map (b := 0) fun i hi => .int (h i hi)
theorem Dws.bools {bs : List Bool} : Dws A n (bs.length * 1) (dB bs) (bs.map .bool) := Dws.map (b := 0) fun i _ => .bl
/-- repr -/
theorem Dw.ex {Q : KH} (h : Dw A 12 b d p) (hb : b ≤ 150000) (k : Q (.v (.str p.shown)) A) : ∃ p, DP A d p ∧ Shw p ∧ Q (.v (.str p.shown)) A := ⟨p, h.dp, h.sw.shw (by decide) hb, k⟩
/-- == -/
theorem Dw.eqd (h : Dw A 12 b d p) (h' : Dw A 12 c e q) : EqD A d e (PyData.eqv p q) := ⟨p, q, h.dp, h'.dp, h.sw.shaped (by decide), h'.sw.shaped (by decide), rfl⟩
theorem Dw.eqT (h : Dw A 12 b d p) (h' : Dw A 12 c e p) : EqD A d e true := ⟨p, p, h.dp, h'.dp, h.sw.shaped (by decide), h'.sw.shaped (by decide), SeqAt.eqv_refl p h.sw.cl⟩
theorem dps_map {α : Type} {f : α → D} {g : α → PyData} : ∀ {xs : List α}, (∀ x ∈ xs, DP A (f x) (g x)) → DPs A (xs.map f) (xs.map g)
  | [], _ => .nil
  | x :: xs, h => .cons (h x List.mem_cons_self) (dps_map fun y hy => h y (List.mem_cons_of_mem _ hy))
theorem dps_ints {ns : List Int} : DPs A (dI ns) (ns.map .int) := dps_map fun _ _ => .int _
theorem dps_bools {bs : List Bool} : DPs A (dB bs) (bs.map .bool) := dps_map fun _ _ => .bl _
theorem Sws.map {α : Type} {g : α → PyData} : ∀ {xs : List α}, (∀ x ∈ xs, Sw n b (g x)) → Sws n (xs.length * (b + 1)) (xs.map g)
  | [], _ => .nil
  | x :: xs, h => by
    have := (Sws.cons (h x List.mem_cons_self) (Sws.map (xs := xs) fun y hy => h y (List.mem_cons_of_mem _ hy))).mono (c := (x :: xs).length * (b + 1)) (by rw [List.length_cons, Nat.succ_mul]; omega)
    exact this
theorem Sws.ints {ns : List Int} (h : ∀ i ∈ ns, -(2 ^ 75) ≤ i ∧ i ≤ 2 ^ 75) : Sws n (ns.length * 1) (ns.map .int) := Sws.map (b := 0) fun i hi => .int (h i hi)
theorem Sws.bools {bs : List Bool} : Sws n (bs.length * 1) (bs.map .bool) := Sws.map (b := 0) fun i _ => .bl
theorem Sw.int0 {i : Int} (h : -(2 ^ 75) ≤ i ∧ i ≤ 2 ^ 75) : Sw n 0 (.int i) := .int h
theorem Sw.bl0 {x : Bool} : Sw n 0 (.bool x) := .bl
theorem Sw.non0 : Sw n 0 .none := .non
theorem Sws.nil0 : Sws n 0 [] := .nil
theorem Sw.str0 {x : Str} (h : PyData.strOk x = true) : Sw n x.cps.size (.str x) := .str h (Nat.le_refl _)
theorem Dw.at {A' : OH} (h : Dw A n b d p) (e : d = d) : Dw A n b d p := h
end
end Rp

/-! is, is not, of truths. -/
namespace Rp
open PySem PySem.Spec PyProof.Rows L2
theorem op_isntB {X : Cx} : OpR X (compareOp .IsNot) (fun x y H Q => ∃ a b : Bool, x = .bl a ∧ y = .bl b ∧ Q (.bl (!decide (a = b))) H) := by
  intro pins s σ H x y v u Q I rx ry h
  obtain ⟨a, b, rfl, rfl, q⟩ := h
  cases rx
  cases ry
  show wpAny _ _ ((isSame (Value.bool a) (Value.bool b)) >>= fun z => pure (Value.bool (!z))) _ _ s
  have e : (Value.bool a == Value.bool b) = decide (a = b) := by cases a <;> cases b <;> rfl
  exact wpAny_bind (wpAny_isSame_plain rfl (by rw [e]; exact wpAny_pure (fin_bl I q rfl)))
def hIsB : R2h
  | .v (.bl a), .v (.bl b), A, Q => Q (.v (.bl (decide (a = b)))) A
  | _, _, _, _ => False
theorem l_isB {K : PySem.W.Frag} : LR K (fun x y H Q => ∃ a b : Bool, x = .bl a ∧ y = .bl b ∧ Q (.bl (decide (a = b))) H) hIsB := by
  intro θ H A x y d e Q Qh rd re ra w k
  unfold hIsB at w
  split at w
  · cases rd; cases re; exact ⟨_, _, rfl, rfl, k.here ra (.v _) w⟩
  · exact w.elim
def hIsntB : R2h
  | .v (.bl a), .v (.bl b), A, Q => Q (.v (.bl (!decide (a = b)))) A
  | _, _, _, _ => False
theorem l_isntB {K : PySem.W.Frag} : LR K (fun x y H Q => ∃ a b : Bool, x = .bl a ∧ y = .bl b ∧ Q (.bl (!decide (a = b))) H) hIsntB := by
  intro θ H A x y d e Q Qh rd re ra w k
  unfold hIsntB at w
  split at w
  · cases rd; cases re; exact ⟨_, _, rfl, rfl, k.here ra (.v _) w⟩
  · exact w.elim
/-! ### slots, one by one -/
theorem sl_mapC {α β : Type} (f : α → β) (a : α) (l : List α) : List.map f (a :: l) = f a :: List.map f l := rfl
theorem sl_mapN {α β : Type} (f : α → β) : List.map f [] = [] := rfl
theorem sl_repS {α : Type} (a : α) (n : Nat) : List.replicate (n + 1) a = a :: List.replicate n a := rfl
theorem sl_rep0 {α : Type} (a : α) : List.replicate 0 a = [] := rfl
theorem sl_appC {α : Type} (a : α) (l m : List α) : (a :: l) ++ m = a :: (l ++ m) := rfl
theorem sl_appN {α : Type} (m : List α) : [] ++ m = m := rfl
theorem sl_set0 {α : Type} (a b : α) (l : List α) : (a :: l).set 0 b = b :: l := rfl
theorem sl_setS {α : Type} (a b : α) (l : List α) (n : Nat) : (a :: l).set (n + 1) b = a :: l.set n b := rfl
theorem sl_lenC {α : Type} (a : α) (l : List α) : (a :: l).length = l.length + 1 := rfl
theorem sl_lenN {α : Type} : ([] : List α).length = 0 := rfl
inductive Seq : SH → SH → Prop
  | nil : Seq [] []
  | cons {a b : Option D} {as bs : SH} (h : a = b) (t : Seq as bs) : Seq (a :: as) (b :: bs)
theorem Seq.eq {a b : SH} (h : Seq a b) : a = b := by
  induction h with
  | nil => rfl
  | cons h _ ih => rw [h, ih]
end Rp

/-! Expressions and tests with several ways to one end. -/
namespace Rp
open PySem PySem.Spec PyProof.Rows L2
structure JoinQ (C : KH → Prop) (Q : KH) : Prop where
  h : ∃ P : KH, C P ∧ ∀ d A, P d A → Q d A
def hJ (t : TEh) : TEh := fun σ A Q => JoinQ (t σ A) Q
theorem pj_e {X : Cx} {e : Expr} {t : TEh} (h : PE X e (lift X.K t)) : PE X e (lift X.K (hJ t)) :=
  h.imp fun σ H Q ⟨θ, σh, A, Qh, rs, ra, w, k⟩ => by
    obtain ⟨P, w, hP⟩ := w.h
    exact ⟨θ, σh, A, P, rs, ra, w, fun _ _ _ _ _ e ra r q => k _ _ _ _ _ e ra r (hP _ _ q)⟩
structure JoinT (C : (Bool → OH → Prop) → Prop) (Q : Bool → OH → Prop) : Prop where
  h : ∃ P : Bool → OH → Prop, C P ∧ ∀ b A, P b A → Q b A
def hJT (t : TTh) : TTh := fun σ A Q => JoinT (t σ A) Q
theorem pj_t {X : Cx} {e : Expr} {t : TTh} (h : PT X e (liftT X.K t)) : PT X e (liftT X.K (hJT t)) :=
  h.imp fun σ H Q ⟨θ, σh, A, Qh, rs, ra, w, k⟩ => by
    obtain ⟨P, w, hP⟩ := w.h
    exact ⟨θ, σh, A, P, rs, ra, w, fun _ _ _ _ e ra q => k _ _ _ _ e ra (hP _ _ q)⟩
theorem pwj_t {X : Cx} {e : Expr} {t : TTh} (h : PW X e (liftT X.K t)) : PW X e (liftT X.K (hJT t)) :=
  h.imp fun σ H Q ⟨θ, σh, A, Qh, rs, ra, w, k⟩ => by
    obtain ⟨P, w, hP⟩ := w.h
    exact ⟨θ, σh, A, P, rs, ra, w, fun _ _ _ _ e ra q => k _ _ _ _ e ra (hP _ _ q)⟩
section
variable {C : KH → Prop} {T : (Bool → OH → Prop) → Prop} {Q : KH} {R : Bool → OH → Prop}
theorem JoinQ.bl (A : OH) (b : Bool) (h : C (fun d A' => Lf (A' = A ∧ d = .v (.bl b)))) (k : Q (.v (.bl b)) A) : JoinQ C Q :=
  ⟨_, h, fun d A' q => by obtain ⟨rfl, rfl⟩ := q.h; exact k⟩
theorem JoinQ.int (A : OH) (b : Int) (h : C (fun d A' => Lf (A' = A ∧ d = .v (.int b)))) (k : Q (.v (.int b)) A) : JoinQ C Q :=
  ⟨_, h, fun d A' q => by obtain ⟨rfl, rfl⟩ := q.h; exact k⟩
theorem JoinQ.any (J : KH) (h : C (fun d A' => Lf (J d A'))) (k : ∀ d A, J d A → Q d A) : JoinQ C Q :=
  ⟨_, h, fun d A' q => k d A' q.h⟩
theorem JoinT.bl (A : OH) (b : Bool) (h : T (fun d A' => Lf (A' = A ∧ d = b))) (k : R b A) : JoinT T R :=
  ⟨_, h, fun d A' q => by obtain ⟨rfl, rfl⟩ := q.h; exact k⟩
theorem JoinT.any (J : Bool → OH → Prop) (h : T (fun d A' => Lf (J d A'))) (k : ∀ d A, J d A → R d A) : JoinT T R :=
  ⟨_, h, fun d A' q => k d A' q.h⟩
end
def hPar3 (i j l : Nat) (t : TAh) : TSh := fun D σ A => t σ A fun ds A1 => match ds with | [d, e, f] => D.nx (((σ.set i (some d)).set j (some e)).set l (some f)) A1 | _ => False
theorem psh_par3 {X : Cx} {a b c : Expr} {pos : Pos} {i j l : Nat} {x y z : Str} {t : TAh} {px py pz pt : Pos} {kt k2 pt2} (hc : X.calm = true) (hN : X.N.Nodup) (hi : X.N[i]? = some x) (hj : X.N[j]? = some y) (hl : X.N[l]? = some z) (hij : i ≠ j) (hil : i ≠ l) (hjl : j ≠ l)
    (hx : X.env.scope.names.lookup x = some .local) (hy : X.env.scope.names.lookup y = some .local) (hz : X.env.scope.names.lookup z = some .local) (ha : PA X [a, b, c] (liftA X.K t))
    (hw : swappedStores [.Tuple [.Name x px, .Name y py, .Name z pz] kt pt] (.Tuple [a, b, c] k2 pt2) X.env = pure (some [x, y, z]))
    (hs : swapsWithSole [.Tuple [.Name x px, .Name y py, .Name z pz] kt pt] (.Tuple [a, b, c] k2 pt2) pos.line X.env = pure false := by rfl) :
    PS X (.Assign [.Tuple [.Name x px, .Name y py, .Name z pz] kt pt] (.Tuple [a, b, c] k2 pt2) pos) (liftS X.K (hPar3 i j l t)) :=
  (ps_par3 hc hN hi hj hl hij hil hjl hx hy hz ha hw hs).imp fun De σ H ⟨θ, σh, A, Dh, rs, ra, w, k⟩ => ⟨θ, σh, A, _, rs, ra, w, fun θ1 H1 A1 vs ds e1 ra1 r1 w1 => by
    split at w1
    · cases r1 with
      | cons r1 r2 =>
        cases r2 with
        | cons r2 r3 =>
          cases r3 with
          | cons r3 r4 =>
            cases r4
            exact ⟨_, _, _, rfl, k.nx _ _ _ _ _ e1 (RS.set (.some r3) l (RS.set (.some r2) j (RS.set (.some r1) i (rs.ext e1)))) ra1 w1⟩
    · exact w1.elim⟩
end Rp

/-! A def that hands a def within it out. -/
namespace Rp
open PySem PySem.Spec PyProof.Rows L2 NdefX
/-! ### its free names' cells -/
section
variable {cells : List (Str × Addr)} {names : List (Str × NameKind)} {fr : List Str}
theorem lookup_mem {α β : Type} [BEq α] [LawfulBEq α] : ∀ {l : List (α × β)} {a : α} {b : β}, l.lookup a = some b → (a, b) ∈ l
  | (x, y) :: l, a, b, h => by
    rw [List.lookup_cons] at h
    cases c : a == x with
    | true => rw [c] at h; cases h; rw [eq_of_beq c]; exact List.mem_cons_self
    | false => rw [c] at h; exact List.mem_cons_of_mem _ (lookup_mem h)
theorem lookup_of_mem {α β : Type} [BEq α] [LawfulBEq α] : ∀ {l : List (α × β)} {a : α} {b : β}, (a, b) ∈ l → ∃ b', l.lookup a = some b'
  | (x, y) :: l, a, b, h => by
    rw [List.lookup_cons]
    cases c : a == x with
    | true => exact ⟨y, rfl⟩
    | false =>
      rcases List.mem_cons.mp h with e | h
      · cases e; simp at c
      · exact lookup_of_mem h
theorem clo_some (hf : ∀ y, (y, NameKind.free) ∈ names → y ∈ fr) (hc : ∀ y ∈ fr, ∃ c, cells.lookup y = some c) {y : Str} {c : Addr} (h : (cloFrom cells names []).lookup y = some c) : y ∈ fr ∧ cells.lookup y = some c := by
  rcases cloFrom_mem (lookup_mem h) with z | ⟨z, e⟩
  · cases z
  · have hy := hf y z
    obtain ⟨c', e'⟩ := hc y hy
    rw [e'] at e
    exact ⟨hy, by rw [e', e]; rfl⟩
theorem clo_has (hf : ∀ y, (y, NameKind.free) ∈ names → y ∈ fr) (hc : ∀ y ∈ fr, ∃ c, cells.lookup y = some c) (hn : ∀ y ∈ fr, (y, NameKind.free) ∈ names) {y : Str} {c : Addr} (hy : y ∈ fr) (e : cells.lookup y = some c) : (cloFrom cells names []).lookup y = some c := by
  obtain ⟨c', h⟩ := lookup_of_mem (cloFrom_has (cells := cells) (acc := []) (hn y hy))
  have := (clo_some hf hc h).2
  rw [e] at this
  cases this
  exact h
end
/-! ### a body that hands something out at its end -/
structure PSr (X : Cx) (body : List Stmt) (t : (L2.St → V → Hp → Prop) → L2.St → Hp → Prop) : Prop where
  run : ∀ (pins : List (Addr × Obj)) (s : Shared) (σ : L2.St) (H : Hp) (R : L2.St → V → Hp → Prop), Inv X pins σ H s → t R σ H → wpAny (model X.prog X.w) X.A (execs body X.env) (fun fl s' => ∃ u v σ' H', fl = .ret u ∧ Inv X pins σ' H' s' ∧ RelV v u ∧ R σ' v H') X.xe s
section
variable {X : Cx} {e : Expr} {te : TE} {st : Stmt} {rest : List Stmt} {t1 : TS} {t2 : (L2.St → V → Hp → Prop) → L2.St → Hp → Prop} {pos : Pos}
theorem psr_ret (he : PE X e te) : PSr X [.Return (some e) pos] (fun R σ H => te σ H (fun v H' => R σ v H')) :=
  ⟨fun pins s σ H R I h => by
    unfold execs
    refine wpAny_bind (wpAny_Return_some (thn (he.run pins s σ H _ I h) fun u s1 ⟨v, H1, I1, r1, q⟩ => ?_))
    exact wpAny_pure ⟨u, v, σ, H1, rfl, I1, r1, q⟩⟩
theorem psr_cons (h1 : PS X st t1) (h2 : PSr X rest t2) : PSr X (st :: rest) (fun R σ H => t1 { nx := fun σ' H' => t2 R σ' H', rt := fun _ _ => False } σ H) :=
  ⟨fun pins s σ H R I h => by
    unfold execs
    refine wpAny_bind (thn (h1.run pins s σ H _ I h) fun fl s1 q => ?_)
    cases fl with
    | next =>
      obtain ⟨σ', H', I', q⟩ := q
      exact h2.run pins s1 σ' H' R I' q
    | brk => obtain ⟨_, _, _, z⟩ := q; exact z.elim
    | cont => obtain ⟨_, _, _, z⟩ := q; exact z.elim
    | ret u => obtain ⟨_, _, _, _, _, z⟩ := q; exact z.elim⟩
end
/-- the heap with these cells told -/
def track (tr : Addr → Option (V × Obj)) (H : Hp) : Hp := fun b => match tr b with
  | some v => some (CellO b v)
  | none => H b
/-- .. and without them -/
def untrack (tr : Addr → Option (V × Obj)) (H : Hp) : Hp := fun b => match tr b with
  | some _ => none
  | none => H b
theorem track_in {tr : Addr → Option (V × Obj)} {H : Hp} {b : Addr} {z : V × Obj} (h : tr b = some z) : track tr H b = some (CellO b z) := by unfold track; rw [h]
theorem track_out {tr : Addr → Option (V × Obj)} {H : Hp} {b : Addr} (h : tr b = none) : track tr H b = H b := by unfold track; rw [h]
theorem untrack_in {tr : Addr → Option (V × Obj)} {H : Hp} {b : Addr} {z : V × Obj} (h : tr b = some z) : untrack tr H b = none := by unfold untrack; rw [h]
theorem untrack_out {tr : Addr → Option (V × Obj)} {H : Hp} {b : Addr} (h : tr b = none) : untrack tr H b = H b := by unfold untrack; rw [h]
/-- the cells of these names, with what they hold -/
structure Own (cells : List (Str × Addr)) (h : Heap) (fr : List Str) (xs : List V) (tr : Addr → Option (V × Obj)) : Prop where
  has : ∀ (i : Nat) (y : Str), fr[i]? = some y → ∃ c z, cells.lookup y = some c ∧ xs[i]? = some z.1 ∧ tr c = some z
  of : ∀ b z, tr b = some z → (∃ y, y ∈ fr ∧ cells.lookup y = some b) ∧ h.get? b = some z.2 ∧ ∃ u, RelV z.1 u ∧ z.2.data = .cell (some u)
theorem own_cells {X : Cx} {pins : List (Addr × Obj)} {σ : L2.St} {H : Hp} {s : Shared} {fr : List Str} {xs : List V} (J : Inv X pins σ H s) (hfr : fr.Nodup) (hk : ∀ y ∈ fr, X.env.scope.names.lookup y = some .cell)
    (hs : ∀ (i : Nat) (y : Str), fr[i]? = some y → ∃ (j : Nat) (x : V), X.N[j]? = some y ∧ σ[j]? = some (some x) ∧ xs[i]? = some x) : ∃ tr, Own X.env.cells s.heap fr xs tr := by
  have hasC : ∀ y ∈ fr, ∃ c, X.env.cells.lookup y = some c := fun y hy => J.ok.has y (.inl (hk y hy))
  have injC : ∀ x y c, X.env.cells.lookup x = some c → X.env.cells.lookup y = some c → x = y := J.ok.inj
  obtain ⟨m, _, lo⟩ := J.loc
  have cell : ∀ (i : Nat) (y : Str) (c : Addr) (x : V), fr[i]? = some y → xs[i]? = some x → X.env.cells.lookup y = some c → ∃ o, s.heap.get? c = some o ∧ ∃ u, RelV x u ∧ o.data = .cell (some u) := fun i y c x h1 h2 h3 => by
    obtain ⟨j, x', g1, g2, g3⟩ := hs i y h1
    rw [h2] at g3
    cases g3
    have hy := List.mem_of_getElem? h1
    obtain ⟨u, ru, L⟩ := lo j y x g1 g2 (.inr (.inl (hk y hy)))
    rcases L with ⟨z, _⟩ | ⟨_, c', hc, o, ho, hd⟩
    · have z : X.env.scope.names.lookup y = some NameKind.local := z
      rw [hk y hy] at z
      cases z
    · rw [h3] at hc
      cases hc
      exact ⟨o, ho, u, ru, hd⟩
  refine ⟨fun b => (fr.zip xs).findSome? fun p => if X.env.cells.lookup p.1 = some b then (s.heap.get? b).map fun o => (p.2, o) else none, ⟨fun i y hy => ?_, fun b z h => ?_⟩⟩
  · obtain ⟨j, x, g1, g2, g3⟩ := hs i y hy
    obtain ⟨c, hc⟩ := hasC y (List.mem_of_getElem? hy)
    obtain ⟨o, ho, _⟩ := cell i y c x hy g3 hc
    have hm : (y, x) ∈ fr.zip xs := List.mem_of_getElem? (i := i) (by rw [List.getElem?_zip_eq_some]; exact ⟨hy, g3⟩)
    refine ⟨c, (x, o), hc, g3, ?_⟩
    cases e : (fr.zip xs).findSome? fun p => if X.env.cells.lookup p.1 = some c then (s.heap.get? c).map fun o => (p.2, o) else none with
    | none =>
      rw [List.findSome?_eq_none_iff] at e
      have := e _ hm
      rw [if_pos hc, ho] at this
      cases this
    | some z =>
      obtain ⟨⟨y', x'⟩, hm', e'⟩ := List.exists_of_findSome?_eq_some e
      split at e'
      · rename_i hc'
        rw [ho] at e'
        cases e'
        have ey := injC y' y c hc' hc
        subst ey
        obtain ⟨n, hn⟩ := List.mem_iff_getElem?.mp hm'
        rw [List.getElem?_zip_eq_some] at hn
        obtain ⟨hi1, e1⟩ := List.getElem?_eq_some_iff.mp hy
        obtain ⟨hj1, e2⟩ := List.getElem?_eq_some_iff.mp hn.1
        have e3 := (List.getElem_inj hfr).mp (e1.trans e2.symm)
        subst e3
        have := hn.2
        rw [g3] at this
        cases this
        rfl
      · cases e'
  · obtain ⟨⟨y, x⟩, hm, e⟩ := List.exists_of_findSome?_eq_some h
    split at e
    · rename_i hc
      obtain ⟨n, hn⟩ := List.mem_iff_getElem?.mp hm
      rw [List.getElem?_zip_eq_some] at hn
      obtain ⟨o, ho, hu⟩ := cell n y b x hn.1 hn.2 hc
      rw [ho] at e
      cases e
      exact ⟨⟨y, List.mem_of_getElem? hn.1, hc⟩, ho, hu⟩
    · cases e
section
variable {P : Program} {w : World} {K : PySem.W.Frag} {mg : Str → Option Value} {base : Heap}
/-- what is handed out: a def within, its free names' cells as the slots have them -/
structure Hands (N : List Str) (stN : Stmt) (nameN qualN : Str) (cells : List (Str × Addr)) (fr : List Str) (Q : VK) (σ : L2.St) (v : V) (H : Hp) : Prop where
  h : ∃ (fN : Addr) (F : NF) (xs : List V), v = .ref fN ∧ H fN = some (FnO fN F) ∧ H F.c = some (LamX.CodeO F.c F.qual) ∧ GoodF stN nameN qualN F ∧ F.cl = cloFrom cells (C8.fnScope stN).names [] ∧ xs.length = fr.length ∧
    (∀ (i : Nat) (y : Str), fr[i]? = some y → ∃ (j : Nat) (x : V), N[j]? = some y ∧ σ[j]? = some (some x) ∧ xs[i]? = some x) ∧ ∀ H', Same H H' → HasC H' F.cl fr xs → Q v H'
theorem ok_maker {x qual : Str} {st stN : Stmt} {nameN qualN : Str} {f : Addr} {fd : FuncData} {N ps fr : List Str} {k : Nat} {sp : Sp} (F : Fun K x qual st f fd) (S : FnScope N ps (defScope st)) (len : ∀ vs H Q E, sp vs H Q E → vs.length = ps.length)
    (hfr : fr.Nodup) (hk : ∀ y ∈ fr, (defScope st).names.lookup y = some .cell) (hf' : ∀ y ∈ (C8.fnScope stN).names, y.2 = NameKind.free → y.1 ∈ fr) (hn : ∀ y ∈ fr, (y, NameKind.free) ∈ (C8.fnScope stN).names)
    (hb : ∀ (cdv : Value) (A : Around) (outer : List Env) (s : Shared) (H : Hp) (vs : List V) (Q : VK) (E : XK), fd.code = cdv → PySem.W.codeIn K cdv qual = true → Room k (A.deeper (envOfC qual (defScope st) s.heap.objs.size f cdv)) → sp vs H Q E →
      ∃ t, PSr (cxOf CX0 P w K mg base N qual (defScope st) f cdv A outer s H E).nox (defBody st) t ∧ t (Hands N stN nameN qualN (envOfC qual (defScope st) s.heap.objs.size f cdv).cells fr Q) (start N vs) H) : FnOk P w K mg base CX0 (k + 1) f fd ps sp := by
  have hf : ∀ y, (y, NameKind.free) ∈ (C8.fnScope stN).names → y ∈ fr := fun y h => hf' (y, .free) h rfl
  obtain ⟨oc, od, kV, doc, pm, an, cdv, ct, osl, rfl, lk, hcd⟩ := F.ex
  refine ⟨len, fun A outer s H args us vs Q E room en bi rel want => ?_⟩
  have kept : ∀ b o, base.get? b = some o → s.heap.get? b = some o := fun b o e => (en.bs b o e).1
  have inK : K.In s.heap := en.mod.kin.keeps kept
  refine codeAny_call_function room.depth (inK _ _ lk) rfl S.co S.gen rfl (PySem.W.codeRec_of inK hcd) (bi _ _ _ _ ?_)
  refine wpAny_newFunctionEnv_cells S.kind (fun y hy => ?_) fun env he s1 made => ?_
  · rcases S.par y.1 (List.of_mem_zip (show (y.1, y.2) ∈ ps.zip us from hy)).1 with q | q
    · exact .inl q
    · exact .inr ⟨q, PySem.W.cellsFrom_some _ _ _ (.inl q)⟩
  subst he
  refine ⟨(en.mod.nolimit.keeps kept).keeps made.toInCall.keep, codeAny_func ?_⟩
  obtain ⟨t, body, reads⟩ := hb cdv A outer s H vs Q E rfl hcd (room.deeper _) want
  refine wpAny_mono (body.run [] s1 (start N vs) H _ (Inv.wish (inv_start (E := E) S room.hd en (len _ _ _ _ want) rel made) _) reads) (fun fl s' hs => ?_) fun e s' hs => hs.elim
  obtain ⟨u, v, σ', H', rfl, J, rv, fN, FN, xs, rfl, hF, hFc, g, ecl, hl, hs, q⟩ := hs
  generalize hcells : (envOfC qual (defScope st) s.heap.objs.size f cdv).cells = cells at ecl
  have hasC : ∀ y ∈ fr, ∃ c, cells.lookup y = some c := fun y hy => by rw [← hcells]; exact J.ok.has y (.inl (hk y hy))
  have injC : ∀ x y c, cells.lookup x = some c → cells.lookup y = some c → x = y := fun x y c h1 h2 => J.ok.inj x y c (by rw [← hcells] at h1; exact h1) (by rw [← hcells] at h2; exact h2)
  have freeC : ∀ y c, cells.lookup y = some c → H' c = none := fun y c h => J.freeC y c (by rw [← hcells] at h; exact h)
  have newC : ∀ y c, cells.lookup y = some c → s.heap.objs.size ≤ c := fun y c h => J.ok.cab y c rfl (by rw [← hcells] at h; exact h)
  obtain ⟨tr, own⟩ := own_cells (xs := xs) J hfr (fun y hy => hk y hy) hs
  replace own : Own cells s'.heap fr xs tr := by rw [← hcells]; exact own
  have free : ∀ b x, tr b = some x → H' b = none := fun b x h => by
    obtain ⟨⟨y, _, h3⟩, _⟩ := own.of b x h
    exact freeC y b h3
  have same : Same H' (track tr H') := fun b o e => by
    cases z : tr b with
    | none => rw [track_out z]; exact e
    | some x => rw [free b x z] at e; cases e
  have un := J.base
  refine ⟨.ref fN, track tr H', J.os, J.bare, ⟨un.keep, un.slot, fun b o e hb nx => ?_, un.there, fun b xs e => same _ _ (un.tups b xs e), fun b o u e => same _ _ (un.frzs b o u e), fun b ps e => ?_⟩, fun a o e => ?_, rv, q _ same ⟨hl, fun i y hy => ?_, fun y c h => ?_, fun x y c h1 h2 => ?_⟩⟩
  · have h1 := un.free b o e hb nx
    cases z : tr b with
    | none => rw [track_out z]; exact h1
    | some x =>
      obtain ⟨⟨y, _, h3⟩, _⟩ := own.of b x z
      exact absurd (Heap.lt_size e) (Nat.not_lt.mpr (newC y b h3))
  · obtain ⟨more, m⟩ := un.tbls b ps e
    exact ⟨more, same _ _ m⟩
  · cases z : tr a with
    | some x =>
      rw [track_in z] at e
      cases e
      exact cellO_ok (own.of a x z).2
    | none =>
      rw [track_out z] at e
      exact (J.hok a o e).stay (fun b u _ e => e) (fun b e => same _ _ e) (fun b xs e => same _ _ e)
  · obtain ⟨c, z, hc, g3, hz⟩ := own.has i y hy
    exact ⟨c, z, by rw [ecl]; exact clo_has hf hasC hn (List.mem_of_getElem? hy) hc, g3, track_in hz⟩
  · rw [ecl] at h
    exact (clo_some hf hasC h).1
  · rw [ecl] at h1 h2
    exact injC x y c (clo_some hf hasC h1).2 (clo_some hf hasC h2).2
end
end Rp

/-! Calls of defs within defs, over data: what holds such defs is hidden from them. -/
namespace Rp
open PySem PySem.Spec PyProof.Rows L2 NdefX
mutual
def noFn : D → Bool
  | .v _ => true
  | .tup ds => noFns ds
  | .ptr _ => true
  | .scr _ => true
  | .fn _ _ _ _ _ => false
  | .lfn _ _ _ _ => false
def noFns : List D → Bool
  | [] => true
  | d :: ds => noFn d && noFns ds
end
def noFnO : O → Bool
  | .lst ds => noFns ds
  | .ins _ fs => noFns (fs.map (·.2))
  | .dK kvs => noFns (kvs.map (·.2))
  | .raw _ => true
  | .tab _ _ => true
structure Stab0 (H H' : Hp) : Prop where
  tup : ∀ a xs, H a = some (.tup xs) → H' a = some (.tup xs)
  frz : ∀ a o u, H a = some (.frz o u) → H' a = some (.frz o u)
  code : ∀ c q, H c = some (LamX.CodeO c q) → H' c = some (LamX.CodeO c q)
section
variable {K : PySem.W.Frag} {θ θ' : List Addr} {H H' : Hp} {cs : List Addr} {A A3 A4 : OH}
theorem SqT.stab' {a : Addr} {xs : List V} (h : SqT K H a xs) (s : Stab0 H H') : SqT K H' a xs := by
  rcases h with (h | ⟨o, h⟩) | h
  · exact .inl (.inl (s.tup _ _ h))
  · exact .inl (.inr ⟨o, s.frz _ _ _ h⟩)
  · exact .inr h
theorem SqF.stab' {a : Addr} {xs : List V} (h : SqF K H a xs) (s : Stab0 H H') : SqF K H' a xs := by
  rcases h with ⟨o, h⟩ | h
  · exact .inl ⟨o, s.frz _ _ _ h⟩
  · exact .inr h
mutual
theorem RD.nofn (s : Stab0 H H') : ∀ {v : V} {d : D}, noFn d = true → RD K θ H v d → RD K θ H' v d
  | _, _, _, .v x => .v x
  | _, _, _, .ptr h => .ptr h
  | _, _, n, .tup h r => .tup (SqT.stab' h s) (RDs.nofn s (by simpa only [noFn] using n) r)
  | _, _, _, .scr h => .scr (SqF.stab' h s)
  | _, _, n, .fn hf g hc c r => by simp [noFn] at n
  | _, _, n, .lfn hf g hc => by simp [noFn] at n
theorem RDs.nofn (s : Stab0 H H') : ∀ {vs : List V} {ds : List D}, noFns ds = true → RDs K θ H vs ds → RDs K θ H' vs ds
  | _, _, _, .nil => .nil
  | _, _, n, .cons h r => by
    simp only [noFns, Bool.and_eq_true] at n
    exact .cons (RD.nofn s n.1 h) (RDs.nofn s n.2 r)
end
theorem RF.nofn {κ : Type} (s : Stab0 H H') : ∀ {xs : List (κ × V)} {fs : List (κ × D)}, noFns (fs.map (·.2)) = true → RF K θ H xs fs → RF K θ H' xs fs
  | _, _, _, .nil => .nil
  | _, _, n, .cons h r => by
    simp only [List.map_cons, noFns, Bool.and_eq_true] at n
    exact .cons (RD.nofn s n.1 h) (RF.nofn s n.2 r)
theorem RO.nofn (s : Stab0 H H') {a : Addr} {o : O} (n : noFnO o = true) (ha : H' a = H a) (hd : ∀ dx, H dx = some (.own a) → H' dx = some (.own a)) (h : RO K θ H a o) : RO K θ H' a o := by
  cases o with
  | lst ds => obtain ⟨xs, h, r⟩ := h; exact ⟨xs, by rw [ha]; exact h, r.nofn s n⟩
  | ins C fs => obtain ⟨dx, xs, h, d, r⟩ := h; exact ⟨dx, xs, by rw [ha]; exact h, hd dx d, r.nofn s n⟩
  | dK kvs => obtain ⟨xs, h, r⟩ := h; exact ⟨xs, by rw [ha]; exact h, r.nofn s n⟩
  | raw u => exact ⟨by rw [ha]; exact h.1, h.2⟩
  | tab P nm =>
    obtain ⟨rfl, ps, h1, h2, h3⟩ := h
    exact ⟨rfl, ps, by rw [ha]; exact h1, h2, fun pos cv e => let ⟨c, e1, e2⟩ := h3 pos cv e; ⟨c, e1, s.code _ _ e2⟩⟩
theorem drop_stab (C : Cells cs H) (nc : ∀ b q, H b = some (LamX.CodeO b q) → b ∉ cs) : Stab0 H (drop cs H) := ⟨fun a xs e => by rw [drop_out (C.out e fun v z => by cases z)]; exact e, fun a o u e => by rw [drop_out (C.out e fun v z => by cases z)]; exact e, fun c q e => by rw [drop_out (nc c q e)]; exact e⟩
/-- what a def within sees: what holds such defs is hidden -/
structure Hid (A A3 : OH) : Prop where
  len : A3.length = A.length
  at_ : ∀ (i : Nat) (o : O), A[i]? = some o → noFnO o = true → A3[i]? = some o
theorem mu_not (C : Cells cs H) {a : Addr} {u : HO} (e : H a = some u) (m : Mu (some u)) : a ∉ cs := C.out e fun v z => by subst z; exact m
theorem hid_of (ra : RA K θ H A) (C : Cells cs H) (nc : ∀ b q, H b = some (LamX.CodeO b q) → b ∉ cs) : ∃ A3, RA K θ (drop cs H) A3 ∧ Hid A A3 ∧ ∀ (i : Nat) (a : Addr) (o : O), θ[i]? = some a → A[i]? = some o → noFnO o = false → ∃ u, A3[i]? = some (.raw u) ∧ H a = some u := by
  refine ⟨A.mapIdx fun i o => if noFnO o then o else .raw ((θ[i]?.bind H).getD (.lst [])), ⟨by rw [List.length_mapIdx]; exact ra.len, ra.nd, fun i a o h1 h2 => ?_⟩, ⟨List.length_mapIdx, fun i o h1 n => ?_⟩, fun i a o h1 h2 n => ?_⟩
  · rw [List.getElem?_mapIdx] at h2
    obtain ⟨o', h3, e⟩ := Option.map_eq_some_iff.mp h2
    have r := ra.ok i a o' h1 h3
    obtain ⟨u, hu, mu⟩ := r.mut
    have na := mu_not C hu mu
    cases n : noFnO o' with
    | true =>
      rw [n, if_pos rfl] at e
      subst e
      exact r.nofn (drop_stab C nc) n (drop_out na) fun dx e => by rw [drop_out (C.out e fun v z => by cases z)]; exact e
    | false =>
      rw [n, if_neg (by decide), h1] at e
      subst e
      refine ⟨?_, ?_, fun ps z => ?_⟩
      · rw [drop_out na]
        show H a = some ((H a).getD (.lst []))
        rw [hu]; rfl
      · show Mu (some ((H a).getD (.lst [])))
        rw [hu]; exact mu
      · have z : (H a).getD (.lst []) = .tbl ps := z
        rw [hu] at z
        have z : u = .tbl ps := z
        subst z
        cases o' with
        | lst ds => obtain ⟨xs, h, _⟩ := r; rw [hu] at h; cases h
        | ins C fs => obtain ⟨dx, xs, h, _⟩ := r; rw [hu] at h; cases h
        | dK kvs => obtain ⟨xs, h, _⟩ := r; rw [hu] at h; cases h
        | raw u => cases n
        | tab P nm => cases n
  · rw [List.getElem?_mapIdx, h1]
    show some (if noFnO o = true then o else _) = some o
    rw [if_pos n]
  · obtain ⟨u, hu, _⟩ := (ra.ok i a o h1 h2).mut
    refine ⟨u, ?_, hu⟩
    rw [List.getElem?_mapIdx, h2]
    show some (if noFnO o = true then o else .raw ((θ[i]?.bind H).getD (.lst []))) = _
    rw [n, if_neg (by decide), h1]
    show some (O.raw ((H a).getD (.lst []))) = _
    rw [hu]; rfl
variable (C : Cells cs H) (e : Ext θ (drop cs H) θ' H') (free : ∀ c ∈ cs, H' c = none)
include C e free
theorem ext_retr (ra' : RA K θ' H' A4) : Ext θ H θ' (retr cs H H') := by
  refine ⟨e.pre, fun a ha => ?_, fun b o nb h => ?_, ⟨fun a xs h => ?_, fun a o u h => ?_, fun a p h => ?_⟩⟩
  · rcases e.new a ha with h | h
    · exact .inl h
    · by_cases z : a ∈ cs
      · obtain ⟨u, hu, _⟩ := ra'.mut ha
        rw [free a z] at hu
        cases hu
      · rw [drop_out z] at h; exact .inr h
  · by_cases z : b ∈ cs
    · rw [retr_in z]; exact .inl h
    · rw [retr_out z]; exact e.stay b o nb (by rw [drop_out z]; exact h)
  · have z := C.out h fun v z => by cases z
    rw [retr_out z]; exact e.stab.tup _ _ (by rw [drop_out z]; exact h)
  · have z := C.out h fun v z => by cases z
    rw [retr_out z]; exact e.stab.frz _ _ _ (by rw [drop_out z]; exact h)
  · by_cases z : a ∈ cs
    · rw [retr_in z]; exact h
    · rw [retr_out z]; exact e.stab.ext _ _ (by rw [drop_out z]; exact h)
omit C e in
theorem stab_back : Stab H' (retr cs H H') := by
  have out : ∀ {a : Addr} {o : HO}, H' a = some o → a ∉ cs := fun h z => by rw [free _ z] at h; cases h
  exact ⟨fun a xs h => by rw [retr_out (out h)]; exact h, fun a o u h => by rw [retr_out (out h)]; exact h, fun a p h => by rw [retr_out (out h)]; exact h⟩
theorem ra_retr (ra : RA K θ H A) (hd : Hid A A3) (raws : ∀ (i : Nat) (a : Addr) (o : O), θ[i]? = some a → A[i]? = some o → noFnO o = false → ∃ u, A3[i]? = some (.raw u) ∧ H a = some u) (ra' : RA K θ' H' A4) (kq : Kq [] A3 A4) :
    RA K θ' (retr cs H H') (A ++ A4.drop A.length) ∧ Kq [] A (A ++ A4.drop A.length) := by
  have hl : A.length ≤ A4.length := by have := kq.len; have := hd.len; omega
  have out : ∀ {a : Addr} {o : HO}, H' a = some o → a ∉ cs := fun h z => by rw [free _ z] at h; cases h
  have sb := stab_back (H := H) free
  have er := ext_retr C e free ra'
  refine ⟨⟨?_, ra'.nd, fun i a o h1 h2 => ?_⟩, ⟨fun i o _ h => ?_, by rw [List.length_append]; omega⟩⟩
  · rw [List.length_append, List.length_drop, ra'.len]; omega
  · by_cases hi : i < A.length
    · rw [List.getElem?_append_left hi] at h2
      obtain ⟨t, et⟩ := e.pre
      have h1' : θ[i]? = some a := by rw [et, List.getElem?_append_left (by rw [ra.len]; exact hi)] at h1; exact h1
      cases n : noFnO o with
      | true =>
        have r := ra'.ok i a o h1 (kq.old0 (hd.at_ i o h2 n))
        obtain ⟨u, hu, _⟩ := r.mut
        have := r.stab (t := []) sb (retr_out (out hu)) fun dx e => by rw [retr_out (out e)]; exact e
        rw [List.append_nil] at this
        exact this
      | false =>
        obtain ⟨u, h3, h4⟩ := raws i a o h1' h2 n
        have r := ra'.ok i a _ h1 (kq.old0 h3)
        have h5 : H' a = some u := r.1
        rw [et] at er ⊢
        refine (ra.ok i a o h1' h2).stab er.stab (by rw [retr_out (out h5), h5, h4]) fun dx ed => er.keep (fun z => ?_) ed fun _ z => nomatch z
        obtain ⟨u', hu', mu⟩ := ra.mut z
        rw [ed] at hu'
        cases hu'
        exact mu
    · rw [List.getElem?_append_right (by omega), List.getElem?_drop, show A.length + (i - A.length) = i by omega] at h2
      have r := ra'.ok i a o h1 h2
      obtain ⟨u, hu, _⟩ := r.mut
      have := r.stab (t := []) sb (retr_out (out hu)) fun dx e => by rw [retr_out (out e)]; exact e
      rw [List.append_nil] at this
      exact this
  · rw [List.getElem?_append_left (lt_of_at h)]; exact h
end
/-! ### the call -/
def spOfN (K : PySem.W.Frag) (n : Nat) (sp : List D → Sph) : List (Option V) → Sp := fun ws vs H Q _ => vs.length = n ∧ ∃ θ ds caps xs A Qh, ws = xs.map some ∧ RDs K θ H xs caps ∧ RDs K θ H vs ds ∧ RA K θ H A ∧ sp caps ds A Qh ∧ Kt K θ H Q Qh
def hClo (n : Nat) (st : Stmt) (name qual : Str) (fr : List Str) (sp : List D → Sph) (tf : TEh) (ta : TAh) : TEh := fun σ A Q => tf σ A fun g A1 => (∃ caps, g = .fn st name qual fr caps) ∧ ta σ A1 fun ds A2 => ∃ caps, g = .fn st name qual fr caps ∧ noFns caps = true ∧ noFns ds = true ∧ ds.length = n ∧
  ∀ A3, Hid A2 A3 → Ask (sp caps) ds A3 fun d A4 => ∃ x, d = .v x ∧ Kq [] A3 A4 ∧ ∀ A5, Kq [] A2 A5 → Q (.v x) A5
theorem ph_clo {X : Cx} {k n : Nat} {st : Stmt} {name qual : Str} {ps fr : List Str} {sp : List D → Sph} {fe e : Expr} {es : List Expr} {pos : Pos} {tf : TEh} {ta : TAh} (Fn : ∀ f F, GoodF st name qual F → NOk X.prog X.w X.K X.mg X.base CX0 k f F ps fr (spOfN X.K n sp)) (hr : Room k X.A) (hfe : PE X fe (lift X.K tf)) (ha : PA X (e :: es) (liftA X.K ta))
    (hev : eval (.Call fe (e :: es) [] pos) X.env = (eval fe X.env >>= fun f => callWith pos f [] (backTo pos (starEach (e :: es) X.env)) []) := by first | rfl | (conv => lhs; unfold eval))
    (hst : starEach (e :: es) X.env = (false, eval e X.env) :: starEach es X.env := by rfl)
    (hpl : (backTo pos (starEach es X.env)).any (·.1) = false := by rfl) : PE X (.Call fe (e :: es) [] pos) (lift X.K (hClo n st name qual fr sp tf ta)) :=
  (pe_closure (sp := spOfN X.K n sp) Fn hr hfe ha hev hst hpl).imp fun σ H Q ⟨θ, σh, A, Qh, rs, ra, w, k⟩ => ⟨θ, σh, A, _, rs, ra, w, fun θ1 H1 A1 v d e1 ra1 r1 w1 => by
    obtain ⟨⟨caps, rfl⟩, w1⟩ := w1
    have r1' := r1
    cases r1 with
    | @fn f F _ _ _ _ xs _ hf g hc c r =>
      refine ⟨f, rfl, ⟨F, hf⟩, θ1, σh, A1, _, rs.ext e1, ra1, w1, fun θ2 H2 A2 vs ds e2 ra2 r2 w2 => ?_⟩
      obtain ⟨caps', ec, n1, n2, n3, w2⟩ := w2
      cases ec
      have r3 := r1'.ext e2
      cases r3 with
      | @fn _ F2 _ _ _ _ xs2 _ hf2 g2 hc2 c2 rc2 =>
        have C := c2.cells
        refine ⟨F2, xs2, hf2, g2, hc2, c2, fun nc => ?_⟩
        obtain ⟨A3, ra3, hd, raws⟩ := hid_of ra2 C nc
        refine ⟨by rw [r2.length]; exact n3, θ2, ds, caps, xs2, A3, _, rfl, rc2.nofn (drop_stab C nc) n1, r2.nofn (drop_stab C nc) n2, ra3, (w2 A3 hd).h, fun θ4 H4 A4 v d e4 ra4 r4 q4 free => ?_⟩
        obtain ⟨x, rfl, kq, q⟩ := q4
        cases r4
        obtain ⟨ra5, kq5⟩ := ra_retr C e4 free ra2 hd raws ra4 kq
        exact k _ _ _ _ _ (e1.trans (e2.trans (ext_retr C e4 free ra4))) ra5 (.v _) (q _ kq5)⟩
end Rp

/-! Defs that hand a def within them out, over data. -/
namespace Rp
open PySem PySem.Spec PyProof.Rows L2 NdefX
def tabsA (A : OH) : List NTab := A.filterMap fun
  | .tab P nm => some (P, nm)
  | _ => none
section
variable {K : PySem.W.Frag} {θ : List Addr} {H H1 H2 : Hp} {A : OH}
theorem tabsA_mem {P : Addr} {nm : Nat → Nat → Str} : (P, nm) ∈ tabsA A ↔ ∃ k : Nat, A[k]? = some (.tab P nm) := by
  unfold tabsA
  rw [List.mem_filterMap]
  constructor
  · rintro ⟨o, ho, e⟩
    obtain ⟨k, hk⟩ := List.mem_iff_getElem?.mp ho
    cases o <;> simp at e
    obtain ⟨rfl, rfl⟩ := e
    exact ⟨k, hk⟩
  · rintro ⟨k, hk⟩
    exact ⟨_, List.mem_of_getElem? hk, rfl⟩
theorem tabs_of (ra : RA K θ H A) : TabsN (tabsA A) H := fun ⟨P, nm⟩ hp => by
  obtain ⟨k, hk⟩ := tabsA_mem.mp hp
  obtain ⟨a, _, r⟩ := ra.at hk
  obtain ⟨rfl, t⟩ := r
  exact t
theorem tabs_one (ra : RA K θ H A) {k : Nat} {P : Addr} {nm : Nat → Nat → Str} (h : A[k]? = some (.tab P nm)) : (P, nm) ∈ tabsA A ∧ ∀ p ∈ tabsA A, p.1 = P → p.2 = nm := by
  refine ⟨tabsA_mem.mpr ⟨k, h⟩, fun ⟨P', nm'⟩ hp e => ?_⟩
  obtain ⟨j, hj⟩ := tabsA_mem.mp hp
  obtain ⟨a, ha, r⟩ := ra.at h
  obtain ⟨b, hb, r'⟩ := ra.at hj
  obtain ⟨rfl, _⟩ := r
  obtain ⟨rfl, _⟩ := r'
  have e : b = a := e
  subst e
  obtain ⟨hk1, e1⟩ := List.getElem?_eq_some_iff.mp ha
  obtain ⟨hk2, e2⟩ := List.getElem?_eq_some_iff.mp hb
  have := (List.getElem_inj ra.nd).mp (e1.trans e2.symm)
  subst this
  rw [h] at hj
  cases hj
  rfl
theorem stab_extN (e : LamX.ExtN H H1) (s : Same H1 H2) : Stab H H2 := ⟨fun a xs h => s _ _ (e _ _ h fun _ z => nomatch z), fun a o u h => s _ _ (e _ _ h fun _ z => nomatch z), fun a p h => s _ _ (e _ _ h fun _ z => nomatch z)⟩
theorem ra_extN (ra : RA K θ H A) (e : LamX.ExtN H H1) (t : TabsN (tabsA A) H1) (s : Same H1 H2) : RA K θ H2 A :=
  ⟨ra.len, ra.nd, fun i a o h1 h2 => by
    have r := ra.ok i a o h1 h2
    have st := stab_extN e s
    have own : ∀ dx, H dx = some (.own a) → H2 dx = some (.own a) := fun dx h => s _ _ (e _ _ h fun _ z => nomatch z)
    have go : ∀ u, H a = some u → (∀ ps, u ≠ .tbl ps) → RO K θ H2 a o := fun u hu n => by
      have := r.stab (t := []) st (by rw [hu]; exact s _ _ (e _ _ hu n)) own
      rw [List.append_nil] at this
      exact this
    cases o with
    | lst ds => obtain ⟨xs, h, _⟩ := id r; exact go _ h fun _ z => nomatch z
    | ins C fs => obtain ⟨dx, xs, h, _⟩ := id r; exact go _ h fun _ z => nomatch z
    | dK kvs => obtain ⟨xs, h, _⟩ := id r; exact go _ h fun _ z => nomatch z
    | raw u => exact go _ r.1 r.2.2
    | tab P nm =>
      obtain ⟨rfl, _⟩ := r
      exact ⟨rfl, (t _ (tabsA_mem.mpr ⟨i, h2⟩)).ext s⟩⟩
theorem ext_extN (e : LamX.ExtN H H1) (s : Same H1 H2) (tb : ∀ b, H1 b = none → H b = none) : Ext θ H θ H2 :=
  ⟨⟨[], by rw [List.append_nil]⟩, fun _ h => .inl h, fun b o _ h => by
    cases o with
    | tbl ps =>
      cases z : H1 b with
      | none => rw [tb b z] at h; cases h
      | some o' => exact .inr ⟨ps, o', rfl, s _ _ z⟩
    | _ => exact .inl (s _ _ (e _ _ h fun _ z => nomatch z)), stab_extN e s⟩
end
/-! ### the body of a def that hands out -/
/-- over data: what is wanted of what is handed out -/
abbrev TSr := KH → SH → OH → Prop
structure PsR (X : Cx) (cells : List (Str × Addr)) (N : List Str) (stN : Stmt) (nameN qualN : Str) (fr : List Str) (body : List Stmt) (t : TSr) : Prop where
  h : ∃ tv, PSr X body tv ∧ ∀ θ σ σh H A Q Qh, RS X.K θ H σ σh → RA X.K θ H A → t Qh σh A → Kt X.K θ H Q Qh → tv (Hands N stN nameN qualN cells fr Q) σ H
theorem RS.len' {K : PySem.W.Frag} {θ : List Addr} {H : Hp} : ∀ {σ : L2.St} {σh : SH}, RS K θ H σ σh → σ.length = σh.length
  | _, _, .nil => rfl
  | _, _, .cons _ t => by rw [List.length_cons, List.length_cons, RS.len' t]
theorem rs_caps {K : PySem.W.Frag} {θ : List Addr} {H : Hp} {σ : L2.St} {σh : SH} (rs : RS K θ H σ σh) : ∀ {js : List Nat} {caps : List D}, js.map (fun j => σh[j]?) = caps.map (fun d => some (some d)) → ∃ xs, RDs K θ H xs caps ∧ js.map (fun j => σ[j]?) = xs.map (fun x => some (some x))
  | [], [], _ => ⟨[], .nil, rfl⟩
  | [], _ :: _, h => by cases h
  | _ :: _, [], h => by cases h
  | j :: js, d :: caps, h => by
    rw [List.map_cons, List.map_cons] at h
    injection h with h1 h2
    obtain ⟨v, e, r⟩ := rs.get h1
    obtain ⟨xs, rx, ex⟩ := rs_caps rs h2
    exact ⟨v :: xs, .cons r rx, by rw [List.map_cons, List.map_cons, e, ex]⟩
section
variable {X : Cx} {cells : List (Str × Addr)} {N fr : List Str} {stN st : Stmt} {nameN qualN : Str} {rest : List Stmt} {t1 : TSh} {t2 : TSr}
def jSeqR (t1 : TSh) (t2 : TSr) : TSr := fun Q σ A => t1 { nx := fun σ' A' => t2 Q σ' A', rt := fun _ _ => False } σ A
theorem psR_cons (h1 : PS X st (liftS X.K t1)) (h2 : PsR X cells N stN nameN qualN fr rest t2) : PsR X cells N stN nameN qualN fr (st :: rest) (jSeqR t1 t2) := by
  obtain ⟨tv, hr, hw⟩ := h2.h
  exact ⟨_, psr_cons h1 hr, fun θ σ σh H A Q Qh rs ra w k => ⟨θ, σh, A, _, rs, ra, w, ⟨fun θ' σ' H' σh' A' e rs' ra' q => hw θ' σ' σh' H' A' Q Qh rs' ra' q (k.ext e), fun _ _ _ _ _ _ _ _ z => z.elim, fun _ _ _ _ _ _ _ _ z => z.elim, fun _ _ _ _ _ _ _ _ z => z.elim⟩⟩⟩
def hMk (i : Nat) (js : List Nat) (P : Addr) (nm : Nat → Nat → Str) (stN : Stmt) (nameN qualN : Str) (fr : List Str) : TSr := fun Q σ A => (∃ x, σ[i]? = some x) ∧ (∃ k : Nat, A[k]? = some (.tab P nm)) ∧ ∃ caps : List D, js.map (fun j => σ[j]?) = caps.map (fun d => some (some d)) ∧ Q (.fn stN nameN qualN fr caps) A
theorem psR_mk {c P : Addr} {nm : Nat → Nat → Str} {pos p rp : Pos} {i : Nat} {js : List Nat} (hst : stN = .FunctionDef nameN (C8.fnArgs stN) (C8.fnBody stN) [] none [] (C8.fnScope stN) none nameN pos) (TB : LamX.TabB X.base X.mg c P) (hcode : X.env.code = .ref c)
    (hq : qualN = X.env.qual ++ nameN) (hn : nm pos.line pos.col = qualN) (hfree : ∀ y ∈ (C8.fnScope stN).names, y.2 = .free → X.env.scope.names.lookup y.1 = some .cell ∨ X.env.scope.names.lookup y.1 = some .free)
    (hd0 : (C8.fnArgs stN).defaults = []) (hk0 : (C8.fnArgs stN).kw_defaults = []) (ha : annTrees (C8.fnArgs stN) none X.env = []) (hN : X.N.Nodup) (hi : X.N[i]? = some nameN) (hx : L2.Loc X.env.scope nameN) (hf : X.fn nameN = true ∨ X.env.scope.names.lookup nameN = some .local) (hv : Vis X.env.scope nameN)
    (hcells : X.env.cells = cells) (hXN : X.N = N) (hjs : js.map (fun j => X.N[j]?) = fr.map some) (hij : i ∉ js) (hd : (nameN == ("__debug__" : Str)) = false := by decide) (hcd : (nameN == ("__classdict__" : Str)) = false := by decide) :
    PsR X cells N stN nameN qualN fr [stN, .Return (some (.Name nameN p)) rp] (hMk i js P nm stN nameN qualN fr) := by
  subst hcells hXN hq
  have ps : PS X stN (fun D σ H => ∃ T : List NTab, (P, nm) ∈ T ∧ (∀ p ∈ T, p.1 = P → p.2 = nm) ∧ tNdefM T i (NF.of stN nameN (X.env.qual ++ nameN) (cloFrom X.env.cells (C8.fnScope stN).names [])) D σ H) :=
    ⟨fun pins s σ H D I ⟨T, h1, h2, h⟩ => (ps_ndefMS (T := T) hst TB hcode h1 hn h2 hfree hd0 hk0 ha hN hi hx hf).run pins s σ H D I h⟩
  refine ⟨_, psr_cons ps (psr_ret (pe_var hi hv hd hcd)), fun θ σ σh H A Q Qh rs ra w k => ?_⟩
  obtain ⟨⟨x0, hx0⟩, ⟨kk, hk⟩, caps, hcaps, q⟩ := w
  obtain ⟨m1, m2⟩ := tabs_one ra hk
  obtain ⟨xs, rx, ex⟩ := rs_caps rs hcaps
  have il : i < σ.length := by rw [rs.len']; exact (List.getElem?_eq_some_iff.mp hx0).1
  have lens : xs.length = fr.length := by
    have h1 := congrArg List.length hjs
    have h2 := congrArg List.length ex
    simp only [List.length_map] at h1 h2
    omega
  refine ⟨tabsA A, m1, m2, tabs_of ra, fun f c' H1 e hnone t hfn hf1 hc1 => ?_⟩
  refine ⟨.ref f, by rw [List.getElem?_set_self il], f, _, xs, rfl, hf1, hc1, ⟨_, _, rfl⟩, rfl, lens, fun a y hy => ?_, fun H' s C => ?_⟩
  · have ha : a < js.length := by
      have h1 := congrArg List.length hjs
      simp only [List.length_map] at h1
      have := (List.getElem?_eq_some_iff.mp hy).1
      omega
    have h1 : (js.map fun j => X.N[j]?)[a]? = (fr.map some)[a]? := by rw [hjs]
    have h2 : (js.map fun j => σ[j]?)[a]? = (xs.map fun x => some (some x))[a]? := by rw [ex]
    rw [List.getElem?_map, List.getElem?_map, List.getElem?_eq_getElem ha] at h1 h2
    rw [hy] at h1
    have ha2 : a < xs.length := by rw [lens]; exact (List.getElem?_eq_some_iff.mp hy).1
    rw [List.getElem?_eq_getElem ha2] at h2
    have h1 : X.N[js[a]]? = some y := Option.some.inj h1
    have h2 : σ[js[a]]? = some (some xs[a]) := Option.some.inj h2
    refine ⟨js[a], xs[a], h1, ?_, List.getElem?_eq_getElem ha2⟩
    rw [List.getElem?_set_ne fun z => hij (by rw [z]; exact List.getElem_mem _)]
    exact h2
  · have e2 := ext_extN e s hnone (θ := θ)
    exact k _ _ _ _ _ e2 (ra_extN ra e t s) (.fn (s _ _ hf1) ⟨_, _, rfl⟩ (s _ _ hc1) C (rx.ext e2)) q
end
/-- a def by such a body -/
theorem okMk {P : Program} {w : World} {K : PySem.W.Frag} {mg : Str → Option Value} {base : Heap} {x qual : Str} {st stN : Stmt} {nameN qualN : Str} {f : Addr} {fd : FuncData} {N ps fr : List Str} {k : Nat} {sp : Sph} (F : Fun K x qual st f fd) (S : FnScope N ps (defScope st))
    (hfr : fr.Nodup) (hk : ∀ y ∈ fr, (defScope st).names.lookup y = some .cell) (hf : ∀ y ∈ (C8.fnScope stN).names, y.2 = NameKind.free → y.1 ∈ fr) (hn : ∀ y ∈ fr, (y, NameKind.free) ∈ (C8.fnScope stN).names)
    (hb : ∀ (cdv : Value) (A : Around) (outer : List Env) (s : Shared) (H : Hp) (E : XK), fd.code = cdv → PySem.W.codeIn K cdv qual = true → Room k (A.deeper (envOfC qual (defScope st) s.heap.objs.size f cdv)) →
      ∃ t, PsR (cxOf CX0 P w K mg base N qual (defScope st) f cdv A outer s H E).nox (envOfC qual (defScope st) s.heap.objs.size f cdv).cells N stN nameN qualN fr (defBody st) t ∧ ∀ ds A Q, sp ds A Q → t Q (startH N.length ds) A) : FnOk P w K mg base CX0 (k + 1) f fd ps (spOf K ps.length sp) :=
  ok_maker F S (fun vs H Q E h => h.1) hfr hk hf hn fun cdv A outer s H vs Q E he hc room h => by
    obtain ⟨t, b, go⟩ := hb cdv A outer s H E he hc room
    obtain ⟨tv, hr, hw⟩ := b.h
    obtain ⟨_, θ, ds, A', Qh, r, ra, wq, kq⟩ := h
    exact ⟨tv, hr, hw θ _ _ _ A' Q Qh (.start r) ra (go ds A' Qh wq) kq⟩
/-! ### a def within -/
def startHN (n : Nat) (ds caps : List D) : SH := ds.map some ++ (caps.map some ++ List.replicate (n - ds.length - caps.length) none)
theorem RS.startN {K : PySem.W.Frag} {θ : List Addr} {H : Hp} {N : List Str} {vs xs : List V} {ds caps : List D} (h : RDs K θ H vs ds) (hx : RDs K θ H xs caps) : RS K θ H (startF N vs (xs.map some)) (startHN N.length ds caps) := by
  unfold startF startHN
  rw [h.length, List.length_map, hx.length]
  exact RS.append (.of h) (RS.append (.of hx) (.nones _))
theorem okN {P : Program} {w : World} {K : PySem.W.Frag} {mg : Str → Option Value} {base : Heap} {stN : Stmt} {nameN qualN : Str} {N ps fr : List Str} {k : Nat} {sp : List D → Sph} (S : NScope N ps fr (C8.fnScope stN))
    (hbind : ∀ (cl : List (Str × Addr)) (c' : Addr) (doc pm ctv : Value) (us : List Value), us.length = ps.length → bindArgs ((NF.of stN nameN qualN cl c').fd doc pm ctv) ⟨us, []⟩ = pure (ps.zip us))
    (hb : ∀ (f : Addr) (cl : List (Str × Addr)) (c' : Addr) (A : Around) (outer : List Env) (s : Shared) (H : Hp) (E : XK), Room k (A.deeper (envF (NF.of stN nameN qualN cl c') f s.heap.objs.size)) →
      ∃ t, PSs (ncx CX0 P w K mg base N (NF.of stN nameN qualN cl c') f A outer s H E).nox (C8.fnBody stN) (liftS K t) ∧ ∀ caps ds A Q, sp caps ds A Q → t (endH Q) (startHN N.length ds caps) A) : ∀ f F, GoodF stN nameN qualN F → NOk P w K mg base CX0 (k + 1) f F ps fr (spOfN K ps.length sp) := by
  rintro f _ ⟨cl, c', rfl⟩
  refine nok_of S (hbind cl c') (fun ws vs H Q E h => h.1) fun A outer s H vs ws Q E room hf hc hw h => ?_
  obtain ⟨t, body, go⟩ := hb f cl c' A outer s H E room
  obtain ⟨_, θ, ds, caps, xs, A', Qh, rfl, rx, r, ra, wq, kq⟩ := h
  exact ⟨_, body.nox, ⟨θ, _, A', endH Qh, .startN r rx, ra, go caps ds A' Qh wq, ⟨fun θ' σ' H' σh' A' e rs' ra' q => kq _ _ _ _ _ e ra' (.v _) q, kq, fun θ' σ' H' σh' A' e rs' ra' q => q, fun θ' σ' H' σh' A' e rs' ra' q => q⟩⟩⟩
end Rp

/-! Defs within defs that have cells of their own (names that a comprehension in them reads). -/
namespace Rp
open PySem PySem.Spec PyProof.Rows L2 NdefX
theorem forIn_congr {α : Type} {f g : α → PUnit → Sem (ForInStep PUnit)} : ∀ {l : List α}, (∀ x ∈ l, ∀ u, f x u = g x u) → forIn l PUnit.unit f = forIn l PUnit.unit g
  | [], _ => by simp only [List.forIn_nil]
  | a :: l, h => by
    simp only [List.forIn_cons]
    rw [h a List.mem_cons_self]
    have e := forIn_congr (l := l) (f := f) (g := g) fun x hx => h x (List.mem_cons_of_mem _ hx)
    congr 1
    funext r
    cases r with
    | done b => rfl
    | yield b => exact e
theorem store_local {env : Env} {n : Str} {v : Value} {cs : List (Str × Addr)} (h : env.kindOf n = some .local) : storeName env n v = storeName { env with cells := cs } n v := by
  have h' : Env.kindOf { env with cells := cs } n = some .local := h
  unfold storeName
  simp only [h, h']
  rfl
theorem newEnv_clo {M : Model} {A : Around} {E : Value → Shared → Prop} {s : Shared} {scope : Scope} {globals : Addr} {cl : List (Str × Addr)} {binds : List (Str × Value)} {qual : Str} {func : Option Addr} {code : Value} {builtins : Addr} {Q : Env → Shared → Prop} (hk : scope.kind = .function)
    (hl : ∀ x ∈ binds, scope.names.lookup x.1 = some .local)
    (hQ : ∀ s' : Shared, InCallC s s.heap.objs.size (bindL (fun y => scope.names.lookup y) binds fun _ => none) (cellsFrom (s.heap.objs.size + 1) scope.names []) (bindC (fun y => scope.names.lookup y) binds fun _ => none) s' →
      Q (newEnv scope s.heap.objs.size globals (cellsFrom (s.heap.objs.size + 1) scope.names cl) qual func code none builtins) s') :
    wpAny M A (newFunctionEnv scope globals cl binds qual func code none builtins) Q E s := by
  have ok := cellsFrom_ok scope.names (s.heap.push { cls := .type "frame", data := .dict #[] }) (s.heap.objs.size + 1) [] ⟨(fun _ _ z => nomatch z), List.Pairwise.nil⟩ (by rw [Heap.size_push]; exact Nat.le_refl _)
  rw [Heap.size_push] at ok
  unfold newFunctionEnv
  simp only [Option.isSome_none, Bool.false_eq_true, if_false]
  refine wpAny_bind (wpAny_alloc (wpAny_bind (wpAny_layCells _ (fun name kind cells => ?_) scope.names cl _ _ ?_)))
  · cases hkc : (kind == NameKind.cell) <;> simp
  · simp only [Heap.size_push]
    refine wpAny_bind ?_
    have e : ∀ x ∈ binds, ∀ u : PUnit, (do storeName { scope := scope, locals := s.heap.objs.size, globals := globals, cells := cellsFrom (s.heap.objs.size + 1) scope.names cl, qual := qual, func := func, code := code, frame := some s.heap.objs.size, builtins := builtins } x.1 x.2; pure (ForInStep.yield PUnit.unit) : Sem (ForInStep PUnit)) =
        (do storeName { scope := scope, locals := s.heap.objs.size, globals := globals, cells := cellsFrom (s.heap.objs.size + 1) scope.names [], qual := qual, func := func, code := code, frame := some s.heap.objs.size, builtins := builtins } x.1 x.2; pure (ForInStep.yield PUnit.unit)) := fun x hx u => by
      exact congrArg (fun z : Sem Unit => z >>= fun _ => pure (ForInStep.yield PUnit.unit)) (store_local (cs := cellsFrom (s.heap.objs.size + 1) scope.names []) (hl x hx))
    have e2 := forIn_congr e
    rw [e2]
    refine wpAny_bindParams (env := { scope := scope, locals := s.heap.objs.size, globals := globals, cells := cellsFrom (s.heap.objs.size + 1) scope.names [], qual := qual, func := func, code := code, frame := some s.heap.objs.size, builtins := builtins }) _ (fun _ _ _ => rfl) hk binds (fun _ => none) (fun _ => none) _ _ ⟨⟨⟨_, _, rfl⟩, Heap.Ns.keeps (Heap.Ns.new s.heap (.type "frame")) (pushCells_keeps scope.names _), fun b o e => pushCells_keeps scope.names _ b o (Heap.get?_push_of_some _ e), Nat.le_refl _⟩, fun n c hc => (ok.empty n c (PySem.mem_of_lookup hc)).1, ok.apart, fun n c hm => (ok.empty n c hm).2⟩ (fun x hx => .inl (hl x hx)) fun s' ic => wpAny_pure (hQ s' ic)
/-- the scope of a def within, with cells of its own -/
structure NScopeC (N ps fr : List Str) (sc : Scope) : Prop where
  kind : sc.kind = .function
  co : sc.isCoroutine = false
  gen : sc.isGenerator = false
  nd : N.Nodup
  pre : N.take (ps.length + fr.length) = ps ++ fr
  par : ∀ x ∈ ps, sc.names.lookup x = some .local
  free : ∀ y ∈ sc.names, y.2 = .free → y.1 ∈ fr
  frk : ∀ x ∈ fr, sc.names.lookup x = some .free
  sep : ∀ x ∈ fr, (x, NameKind.cell) ∉ sc.names
/-- the def as its frame has it: its own cells ahead of those it holds -/
def NF.at_ (F : NF) (L : Nat) : NF := { F with cl := cellsFrom (L + 1) F.scope.names F.cl }
/-- the context of its body -/
abbrev ncxC (CX : CXT) (P : Program) (w : World) (K : PySem.W.Frag) (mg : Str → Option Value) (base : Heap) (N : List Str) (F : NF) (f : Addr) (A : Around) (outer : List Env) (s : Shared) (H : Hp) (E : XK) : Cx := { ncx CX P w K mg base N F f A outer s H E with fn := fun x => F.scope.names.lookup x == some .cell }
section
variable {P : Program} {w : World} {K : PySem.W.Frag} {mg : Str → Option Value} {base : Heap}
theorem cf_app : ∀ (names : List (Str × NameKind)) (n : Nat) (acc : List (Str × Addr)), cellsFrom n names acc = cellsFrom n names [] ++ acc
  | [], n, acc => by
    conv => lhs; unfold cellsFrom
    conv => rhs; unfold cellsFrom
    rfl
  | (y, k) :: names, n, acc => by
    conv => lhs; unfold cellsFrom
    conv => rhs; unfold cellsFrom
    by_cases h : (k == NameKind.cell) = true
    · rw [if_pos h, if_pos h, cf_app names (n + 1) ((y, n) :: acc), cf_app names (n + 1) [(y, n)], List.append_assoc]; rfl
    · rw [if_neg h, if_neg h, cf_app names n acc]
theorem lookup_app {α β : Type} [BEq α] : ∀ {l m : List (α × β)} {a : α}, (l ++ m).lookup a = match l.lookup a with | some b => some b | none => m.lookup a
  | [], _, _ => rfl
  | (x, y) :: l, m, a => by
    rw [List.cons_append, List.lookup_cons, List.lookup_cons]
    cases a == x with
    | true => rfl
    | false => exact lookup_app
theorem inv_startNC {CX : CXT} {N ps fr : List Str} {F : NF} {f : Addr} {A : Around} {outer : List Env} {s s1 : Shared} {H : Hp} {E : XK} {us : List Value} {vs : List V} {ws : List (Option V)} (S : NScopeC N ps fr F.scope) (hd : A.handled = none) (e0 : Env0 P w K mg base A outer s H) (hl : vs.length = ps.length) (r : Vals vs us) (C : CellsAt F.cl fr ws s.heap H)
    (ic : InCallC s s.heap.objs.size (bindL (fun y => F.scope.names.lookup y) (ps.zip us) fun _ => none) (cellsFrom (s.heap.objs.size + 1) F.scope.names []) (bindC (fun y => F.scope.names.lookup y) (ps.zip us) fun _ => none) s1) :
    L2.Inv (ncxC CX P w K mg base N (NF.at_ F s.heap.objs.size) f A outer s H E) [] (startF N vs ws) H s1 := by
  obtain ⟨h1, tk, es⟩ := ic.toInCall.same
  have kp := ic.toInCall.keep
  have own : ∀ {y : Str} {c : Addr}, (cellsFrom (s.heap.objs.size + 1) F.scope.names []).lookup y = some c → s.heap.objs.size < c ∧ (y, NameKind.cell) ∈ F.scope.names := fun {y c} h => by
    refine ⟨ic.above y c (PySem.mem_of_lookup h), ?_⟩
    have hp := cells_mem (h := s.heap.push { cls := .type "frame", data := .dict #[] }) (names := F.scope.names) (acc := []) (x := y) (c := c) (by rw [Heap.size_push]; exact PySem.mem_of_lookup h)
    rcases hp with z | ⟨z, _⟩
    · cases z
    · exact z
  have clt : ∀ {y : Str} {c : Addr}, F.cl.lookup y = some c → c < s.heap.objs.size := fun {y c} h => by
    obtain ⟨_, v, o, ho, _⟩ := C.all y c h
    exact Heap.lt_size ho
  have look : ∀ {y : Str} {c : Addr}, (cellsFrom (s.heap.objs.size + 1) F.scope.names F.cl).lookup y = some c → (cellsFrom (s.heap.objs.size + 1) F.scope.names []).lookup y = some c ∨ F.cl.lookup y = some c := fun {y c} h => by
    rw [cf_app, lookup_app] at h
    cases z : (cellsFrom (s.heap.objs.size + 1) F.scope.names []).lookup y with
    | some b => rw [z] at h; exact .inl h
    | none => rw [z] at h; exact .inr h
  have fresh : ∀ {c : Addr}, s.heap.objs.size ≤ c → H c = none := fun {c} h => HOk.fresh e0.hok h
  have hpl : ps.length + fr.length ≤ N.length := by
    have q := congrArg List.length S.pre
    rw [List.length_take, List.length_append] at q
    omega
  have clen := C.len
  have kc : ∀ {c : Addr} {v : Option Value}, s.heap.IsCell c v → s1.heap.IsCell c v := fun {c v} ⟨o, ho, hv⟩ => ⟨o, kp c o ho, hv⟩
  have nos : ∀ {y : Str}, y ∈ fr → (cellsFrom (s.heap.objs.size + 1) F.scope.names []).lookup y = none := fun {y} hy => by
    cases z : (cellsFrom (s.heap.objs.size + 1) F.scope.names []).lookup y with
    | none => rfl
    | some c => exact absurd (own z).2 (S.sep y hy)
  have atf : ∀ {y : Str} {c : Addr}, y ∈ fr → F.cl.lookup y = some c → (cellsFrom (s.heap.objs.size + 1) F.scope.names F.cl).lookup y = some c := fun {y c} hy h => by
    rw [cf_app, lookup_app, nos hy]; exact h
  refine ⟨⟨e0.mod, S.kind, rfl, rfl, Nat.le_refl _, fun x y c h1 h2 => ?_, fun y hy => ?_, (fun y c z h => ?_), (fun _ => hd), Around.frames_deeper e0.frames, .inr ⟨rfl, rfl⟩, (fun b z => nomatch z), e0.bs, e0.bsz, (fun b o _ z => nomatch z), (fun b z => nomatch z), e0.funs, e0.frf⟩, ?_, ?_, Un.kept kp, ⟨_, ic.toInCall.ns, fun i y v e1 e2 e3 => ?_⟩, fun y c h => ?_, fresh (Nat.le_refl _), fun y c h => ?_, fun p hp => ?_, HOk.kept e0.hok kp, ?_⟩
  · rcases look h1 with h1 | h1 <;> rcases look h2 with h2 | h2
    · have q := cells_inj (h := s.heap.push { cls := .type "frame", data := .dict #[] }) (names := F.scope.names) (acc := []) (x := x) (y := y) (c := c) (fun _ z => nomatch z) (fun _ _ _ z => nomatch z)
      rw [Heap.size_push] at q
      exact q (PySem.mem_of_lookup h1) (PySem.mem_of_lookup h2)
    · have := (own h1).1; have := clt h2; exact absurd this (by have := (own h1).1; exact Nat.not_lt.mpr (Nat.le_of_lt this))
    · have := clt h1; exact absurd this (by have := (own h2).1; exact Nat.not_lt.mpr (Nat.le_of_lt this))
    · exact C.inj x y c h1 h2
  · rcases hy with hy | hy
    · have hy : F.scope.names.lookup y = some .cell := hy
      obtain ⟨c, hc⟩ := cells_has (n := s.heap.objs.size + 1) (acc := F.cl) (PySem.mem_of_lookup hy)
      exact lookup_of_mem hc
    · have hy : F.scope.names.lookup y = some .free := hy
      have hf := S.free (y, .free) (PySem.mem_of_lookup hy) rfl
      obtain ⟨j, hj⟩ := List.mem_iff_getElem?.mp hf
      obtain ⟨c, hc, _⟩ := C.has j y hj
      exact ⟨c, atf hf hc⟩
  · have z : (F.scope.names.lookup y == some NameKind.cell) = true := z
    rcases look h with h | h
    · exact Nat.le_of_lt (own h).1
    · have hy := C.all y c h
      cases zo : (cellsFrom (s.heap.objs.size + 1) F.scope.names []).lookup y with
      | some b =>
        have h' : (cellsFrom (s.heap.objs.size + 1) F.scope.names F.cl).lookup y = some b := by rw [cf_app, lookup_app, zo]
        have h : (cellsFrom (s.heap.objs.size + 1) F.scope.names F.cl).lookup y = some c := by assumption
        rw [h'] at h
        cases h
        exact Nat.le_of_lt (own zo).1
      | none =>
        have hc : F.scope.names.lookup y = some NameKind.cell := by
          cases q : F.scope.names.lookup y with
          | none => rw [q] at z; cases z
          | some kk => rw [q] at z; cases kk <;> first | rfl | cases z
        obtain ⟨b, hb⟩ := cells_has (n := s.heap.objs.size + 1) (acc := []) (PySem.mem_of_lookup hc)
        obtain ⟨b', hb'⟩ := lookup_of_mem hb
        rw [zo] at hb'
        cases hb'
  · rw [es]; rfl
  · rw [es]; exact e0.bare
  · have e1 : N[i]? = some y := e1
    unfold startF at e2
    by_cases h1 : i < ps.length
    · have hq : ps[i]? = some y := by
        have q : (N.take (ps.length + fr.length))[i]? = some y := by rw [List.getElem?_take_of_lt (by omega)]; exact e1
        rw [S.pre, List.getElem?_append_left h1] at q
        exact q
      rw [List.getElem?_append_left (by rw [List.length_map]; omega), List.getElem?_map] at e2
      obtain ⟨v', hv, ev⟩ := Option.map_eq_some_iff.mp e2
      cases ev
      obtain ⟨u, hu, ru⟩ := r.get hv
      have hpar := S.par y (List.mem_of_getElem? hq)
      have pnd : ps.Nodup := by
        have q := (List.take_sublist (ps.length + fr.length) N).nodup S.nd
        rw [S.pre] at q
        exact (List.nodup_append.mp q).1
      exact ⟨u, ru, .inl ⟨hpar, bindL_get pnd hq hu hpar⟩⟩
    · rw [List.getElem?_append_right (by rw [List.length_map]; omega), List.length_map] at e2
      by_cases h2 : i < ps.length + fr.length
      · have hq : fr[i - ps.length]? = some y := by
          have q : (N.take (ps.length + fr.length))[i]? = some y := by rw [List.getElem?_take_of_lt h2]; exact e1
          rw [S.pre, List.getElem?_append_right (by omega)] at q
          exact q
        rw [List.getElem?_append_left (by omega), hl] at e2
        obtain ⟨c, hc, hv⟩ := C.has (i - ps.length) y hq
        obtain ⟨u, ru, hu⟩ := hv v e2
        have hy := List.mem_of_getElem? hq
        exact ⟨u, ru, .inr ⟨.inr (S.frk y hy), c, atf hy hc, kc hu⟩⟩
      · rw [List.getElem?_append_right (by omega)] at e2
        have := List.mem_of_getElem? e2
        rw [List.mem_replicate] at this
        cases this.2
  · rcases look h with h | h
    · exact ⟨_, ic.cell y c h⟩
    · obtain ⟨_, v, hv⟩ := C.all y c h
      exact ⟨v, kc hv⟩
  · rcases look h with h | h
    · exact fresh (Nat.le_of_lt (own h).1)
    · exact (C.all y c h).1
  · cases hp
  · unfold startF
    rw [List.length_append, List.length_append, List.length_map, List.length_replicate]
    show _ = N.length
    omega
theorem nok_ofC {CX : CXT} {N ps fr : List Str} {F : NF} {f : Addr} {k : Nat} {sp : List (Option V) → Sp} (S : NScopeC N ps fr F.scope) (hb : ∀ (doc pm ctv : Value) (us : List Value), us.length = ps.length → bindArgs (F.fd doc pm ctv) ⟨us, []⟩ = pure (ps.zip us))
    (len : ∀ ws vs H Q E, sp ws vs H Q E → vs.length = ps.length)
    (hbody : ∀ (A : Around) (outer : List Env) (s : Shared) (H : Hp) (vs : List V) (ws : List (Option V)) (Q : VK) (E : XK), Room k (A.deeper (envF (NF.at_ F s.heap.objs.size) f s.heap.objs.size)) → ws.length = fr.length → sp ws vs H Q E →
      ∃ t, PSs (ncxC CX P w K mg base N (NF.at_ F s.heap.objs.size) f A outer s H E) F.body t ∧ t { nx := fun _ H' => Q .non H', rt := Q } (startF N vs ws) H) : NOk P w K mg base CX (k + 1) f F ps fr sp := by
  refine ⟨len, fun A outer s H us vs ws Q E room e0 hf hc C r want => ?_⟩
  have lim := Heap.NoLimit.keeps e0.mod.nolimit fun b o e => (e0.bs b o e).1
  obtain ⟨od, sl, doc, pm, ctv, ho⟩ := fnO_at e0.hok hf
  refine codeAny_call_function room.depth ho rfl S.co S.gen rfl (codeO_at e0.hok hc) ?_
  rw [hb doc pm ctv us (by rw [← r.length]; exact len _ _ _ _ _ want)]
  refine wpAny_pure (newEnv_clo S.kind (fun x hx => S.par x.1 (List.of_mem_zip (show (x.1, x.2) ∈ ps.zip us from hx)).1) fun s1 ic => ?_)
  refine ⟨lim.keeps ic.toInCall.keep, codeAny_func ?_⟩
  obtain ⟨t, body, reads⟩ := hbody A outer s H vs ws Q E (room.deeper _) C.len want
  refine wpAny_mono (body.run [] s1 (startF N vs ws) H _ (inv_startNC S room.hd e0 (len _ _ _ _ _ want) r C ic) reads) (fun fl s' hs => ?_) fun e s' hs => hs
  cases fl with
  | ret u =>
    obtain ⟨v, σ', H', J, rv, q⟩ := hs
    exact ⟨v, H', J.os, J.bare, J.base, J.hok, rv, q⟩
  | next =>
    obtain ⟨σ', H', J, q⟩ := hs
    exact ⟨V.non, H', J.os, J.bare, J.base, J.hok, rfl, q⟩
  | brk => exact absurd hs (fun ⟨_, _, _, z⟩ => (z : False))
  | cont => exact absurd hs (fun ⟨_, _, _, z⟩ => (z : False))
end
theorem okNC {P : Program} {w : World} {K : PySem.W.Frag} {mg : Str → Option Value} {base : Heap} {stN : Stmt} {nameN qualN : Str} {N ps fr : List Str} {k : Nat} {sp : List D → Sph} (S : NScopeC N ps fr (C8.fnScope stN))
    (hbind : ∀ (cl : List (Str × Addr)) (c' : Addr) (doc pm ctv : Value) (us : List Value), us.length = ps.length → bindArgs ((NF.of stN nameN qualN cl c').fd doc pm ctv) ⟨us, []⟩ = pure (ps.zip us))
    (hb : ∀ (f : Addr) (cl : List (Str × Addr)) (c' : Addr) (A : Around) (outer : List Env) (s : Shared) (H : Hp) (E : XK), Room k (A.deeper (envF (NF.of stN nameN qualN cl c') f s.heap.objs.size)) →
      ∃ t, PSs (ncxC CX0 P w K mg base N (NF.of stN nameN qualN cl c') f A outer s H E).nox (C8.fnBody stN) (liftS K t) ∧ ∀ caps ds A Q, sp caps ds A Q → t (endH Q) (startHN N.length ds caps) A) : ∀ f F, GoodF stN nameN qualN F → NOk P w K mg base CX0 (k + 1) f F ps fr (spOfN K ps.length sp) := by
  rintro f _ ⟨cl, c', rfl⟩
  refine nok_ofC S (hbind cl c') (fun ws vs H Q E h => h.1) fun A outer s H vs ws Q E room hw h => ?_
  obtain ⟨t, body, go⟩ := hb f (cellsFrom (s.heap.objs.size + 1) (C8.fnScope stN).names cl) c' A outer s H E room
  obtain ⟨_, θ, ds, caps, xs, A', Qh, rfl, rx, r, ra, wq, kq⟩ := h
  exact ⟨_, body.nox, ⟨θ, _, A', endH Qh, .startN r rx, ra, go caps ds A' Qh wq, ⟨fun θ' σ' H' σh' A' e rs' ra' q => kq _ _ _ _ _ e ra' (.v _) q, kq, fun θ' σ' H' σh' A' e rs' ra' q => q, fun θ' σ' H' σh' A' e rs' ra' q => q⟩⟩⟩
end Rp

/-! Products of long numbers, by their bits. -/
namespace Rp
open PySem PySem.Spec PyProof.Rows L2
abbrev ib (z : Int) : Nat := Builtin.Int.intBits z
theorem ib_small {z : Int} {k : Nat} (h : z.natAbs < 2 ^ k) : ib z ≤ k := by
  show (if (z == 0) = true then 0 else z.natAbs.log2 + 1) ≤ k
  split
  · exact Nat.zero_le _
  · rename_i hz
    have : z.natAbs ≠ 0 := fun e => hz (by rw [beq_iff_eq]; omega)
    exact (Nat.log2_lt this).mpr h
theorem ib_abs (z : Int) : z.natAbs < 2 ^ ib z := natAbs_lt_pow_bits z
theorem ib_mul {x y : Int} {m n : Nat} (h : ib x ≤ m) (h' : ib y ≤ n) : ib (x * y) ≤ m + n := by
  refine ib_small ?_
  rw [Int.natAbs_mul, Nat.pow_add]
  have h1 := Nat.lt_of_lt_of_le (ib_abs x) (Nat.pow_le_pow_right (by decide) h)
  have h2 := Nat.lt_of_lt_of_le (ib_abs y) (Nat.pow_le_pow_right (by decide) h')
  exact Nat.mul_lt_mul'' h1 h2
theorem ib_add {x y : Int} {m n k : Nat} (h : ib x ≤ m) (h' : ib y ≤ n) (h1 : m < k) (h2 : n < k) : ib (x + y) ≤ k := Nat.le_trans (intBits_add_le h h') (by omega)
theorem ib_div {x w : Int} {m : Nat} (h : ib x ≤ m) (hw : 1 ≤ w) : ib (x / w) ≤ m := by
  refine ib_small (Nat.lt_of_le_of_lt ?_ (Nat.lt_of_lt_of_le (ib_abs x) (Nat.pow_le_pow_right (by decide) h)))
  exact Int.natAbs_ediv_le_natAbs x w
/-- a * b, by their bits -/
def hMulX : R2h
  | .v (.int i), .v (.int j), A, Q => ib i + ib j ≤ 134217728 ∧ Q (.v (.int (i * j))) A
  | _, _, _, _ => False
theorem l_mulX {K : PySem.W.Frag} : LR K (rI CMulX fun i j => V.int (i * j)) hMulX := by
  intro θ H A x y d e Q Qh rd re ra w k
  unfold hMulX at w
  split at w
  · obtain ⟨h, q⟩ := w
    cases rd
    cases re
    exact ⟨_, _, rfl, rfl, by show ((Builtin.Int.intBits _ : Int) + (Builtin.Int.intBits _ : Int)) ≤ 134217728; have h : Builtin.Int.intBits _ + Builtin.Int.intBits _ ≤ 134217728 := h; omega, k.here ra (.v _) q⟩
  · exact w.elim
end Rp

/-! sorted(set(e)), e a list of whole numbers that may stand twice. -/
namespace Rp
open PySem PySem.Spec PyProof.Rows L2
/-- an empty set as it is made -/
abbrev freshSet (w : World) : Obj := { cls := .type "set", dict := none, data := .set #[] 0 (.fresh 0 0 (!w.params.followText "set-order")) }
section
variable {P : Program} {w : World} {A : Around} {E : Value → Shared → Prop} {s : Shared}
/-- what set(list) leaves: the set, all else as it was -/
def SetLeft (w : World) (s : Shared) (ns : List Int) (s₂ : Shared) : Prop := ∃ h' tk c, s₂ = { s with heap := h', toks := tk } ∧ SetR w h' s.heap.objs.size (fun j => decide (j ∈ ns)) c ∧ c ≤ ns.length ∧ ∀ b o, s.heap.get? b = some o → h'.get? b = some o
/-- the init of the fresh set from the list -/
theorem init_list {l : Addr} {items : Array Value} (ns : List Int) (hh : A.handled = none) (hl : s.heap.IsList l items) (hi : IntsAre items.toList ns) (hb : ns.length + 1 < scanBound) {Q : Fin → Shared → Prop} (hQ : ∀ s₂, SetLeft w s ns s₂ → Q (.done (.ret .none)) s₂) :
    wpAny (model P w) A (Builtin.«set.__init__» ⟨[.ref s.heap.objs.size, .ref l], []⟩) Q E { s with heap := s.heap.push (freshSet w) } := by
  have hsz : items.size = ns.length := by
    have q := hi.length
    rwa [Array.length_toList] at q
  have hlS : l < s.heap.objs.size := by obtain ⟨_, h, _⟩ := hl; exact Heap.lt_size h
  have hS : (s.heap.push (freshSet w)).get? s.heap.objs.size = some (freshSet w) := Heap.get?_push_size _ rfl
  have hl1 : (s.heap.push (freshSet w)).IsList l items := hl.push _
  have hsls := F.sub_list_set
  have hslf := F.sub_list_frozenset
  have hne : (Value.type "list" == Value.type "dict") = false := by decide
  obtain ⟨⟨lc, ld, lt, ls⟩, hol, hcl, nl, hdl⟩ := id hl1
  simp only at hcl hdl
  subst hcl hdl
  unfold Builtin.«set.__init__» noKeywords Builtin.Frozenset.updateFrom
  generalize hPI : pyIter = PI
  wp_walk
  subst hPI
  refine wpAny_pyIter_list hl1 ?_
  refine wpAny_bind (wpAny_runValue ?_)
  have hz : (s.heap.push (freshSet w)).objs.size = s.heap.objs.size + 1 := Heap.size_push ..
  have item : ∀ (i : Nat) (v : Value), items[i]? = some v → ∃ k t, ns[i]? = some k ∧ v = .int k t := fun i v hv => by
    have lt : i < ns.length := by rw [← hsz]; exact (Array.getElem?_eq_some_iff.mp hv).1
    obtain ⟨t, e⟩ := PyProof.Rows.IntsAre.int_at hi i v (by rw [Array.getElem?_toList]; exact hv)
    exact ⟨ns[i], t, List.getElem?_eq_getElem lt, by rw [e, List.getD_eq_getElem?_getD, List.getElem?_eq_getElem lt]; rfl⟩
  refine set_update_ints ((Walks.list (by simp [hh]) _ l (by rw [hz]; exact Nat.ne_of_lt (Nat.lt_succ_of_lt hlS)) items).toS) s.heap.objs.size (by
      rw [hz]
      simp only [List.mem_cons, List.mem_singleton, List.not_mem_nil, or_false, not_or]
      exact ⟨Nat.ne_of_lt (Nat.lt_succ_self _), Nat.ne_of_gt hlS⟩) ns hsz hb item _ 0 _ rfl (Nat.zero_le _) ⟨⟨_, Heap.get?_push_size _ rfl, rfl, rfl⟩, hl1.push _⟩
    ⟨0, Nat.le_refl 0, setR_new_at (Heap.get?_push_of_some _ hS)⟩ fun s' c hm hc R => ?_
  obtain ⟨h', g', d', tk, o'⟩ := s'
  cases hm.gens
  cases hm.drawn
  cases hm.os
  refine wpAny_pure (wpAny_pure (hQ _ ⟨h', tk, c, rfl, R, by rw [← hsz]; exact hc, fun b o e => ?_⟩))
  have lt : b < s.heap.objs.size := Heap.lt_size e
  refine hm.heap b o ?_ (Heap.get?_push_of_some _ (Heap.get?_push_of_some _ e))
  show b ∉ [_, _]
  rw [hz]
  simp only [List.mem_cons, List.mem_singleton, List.not_mem_nil, or_false, not_or]
  exact ⟨Nat.ne_of_lt lt, Nat.ne_of_lt (Nat.lt_succ_of_lt lt)⟩
/-- set(list of whole numbers) -/
theorem set_list {l : Addr} {items : Array Value} (ns : List Int) (hh : A.handled = none) (hl : s.heap.IsList l items) (hi : IntsAre items.toList ns) (hb : ns.length + 1 < scanBound) {Q : Value → Shared → Prop} (hQ : ∀ s₂, SetLeft w s ns s₂ → Q (.ref s.heap.objs.size) s₂) :
    wpAny (model P w) A (call (.type "set") [.ref l]) Q E s := by
  have hS : (s.heap.push (freshSet w)).get? s.heap.objs.size = some (freshSet w) := Heap.get?_push_size _ rfl
  have hT : Shared.TypeIs { s with heap := s.heap.push (freshSet w) } (.ref s.heap.objs.size) "set" := ⟨_, hS, rfl⟩
  obtain ⟨c, tl, hmro⟩ := F.called_set.mro
  have hmade := F.called_set.made
  have hsub := F.called_set.sub
  have h1 := F.called_set.notType
  have h2 := F.called_set.canCreate
  have hct := F.typeCall_set_1 (.ref l)
  have hli := F.called_set.init.lookup
  have hbi := F.called_set.init.bind (.ref s.heap.objs.size)
  refine wpAny_call (codeAny_of_tree ?_)
  show wpAny _ _ (callAny (.type "set") _) _ _ _
  refine wpAny_pure ⟨Code.quiet_builtin _ (by decide +kernel), codeAny_builtin F.entry_type_call ?_⟩
  rw [Around.under_plain (weight_type_call_type "set" [.ref l] []) rfl]
  repeat (any_goals (first | assumption | wp_step))
  refine codeAny_mono (code_set_led1 (.ref l) (E := E) (Q₁ := fun v s₁ => v = .ref s.heap.objs.size ∧ s₁ = { s with heap := s.heap.push (freshSet w) }) ⟨rfl, rfl⟩) fun r s₁ hr => ?_
  rcases r with e | fl
  · exact hr
  cases fl with
  | ret v =>
    obtain ⟨rfl, rfl⟩ := hr
    repeat (any_goals (first | assumption | wp_step))
    refine codeAny_mono (codeAny_call_builtin (R := wants (fun r s₂ => r = .none ∧ SetLeft w s ns s₂) E) F.called_set.init.plain F.entry_set_init (check_set_init_1 hT ?_)) fun r s₂ hr => ?_
    · exact init_list ns (by simp [hh]) hl hi hb fun s₂ L => ⟨rfl, L⟩
    rcases r with e | fl
    · exact hr
    cases fl with
    | ret v =>
      obtain ⟨rfl, L⟩ := hr
      repeat (any_goals (first | assumption | wp_step))
      exact hQ _ L
    | _ => exact hr.elim
  | _ => exact hr.elim
end
def tSortSet (K : PySem.W.Frag) (ta : TE) : TE := fun σ H Q => ta σ H fun x H1 => ∃ (l : Addr) (ns : List Int), x = .ref l ∧ SqL K H1 l (ns.map V.int) ∧ ns.length ≤ 63 ∧
  ∀ (ms : List Int) (p : Addr), ms.Pairwise (· < ·) → (∀ z : Int, z ∈ ms ↔ z ∈ ns) → ms.length ≤ ns.length → H1 p = none → Q (.ref p) (upd H1 p (.lst (ms.map V.int)))
theorem pe_sortSet {X : Cx} {a : Expr} {ta : TE} {p p2 q pos : Pos} (hg : Gl X "sorted") (hm : X.mg "sorted" = none) (hg2 : Gl X "set") (hm2 : X.mg "set" = none) (ha : PE X a ta) (hc : X.calm = true := by rfl)
    (na : starEach [a] X.env = (false, eval a X.env) :: starEach [] X.env := by rfl) : PE X (.Call (.Name "sorted" p) [.Call (.Name "set" p2) [a] [] q] [] pos) (tSortSet X.K ta) := by
  refine ⟨fun pins s σ H Q I h => ?_⟩
  refine Call_ (ld_blt I hg hm boot_sorted ?_)
  refine PyProof.Rows.callWith_builtin1 (PyProof.Rows.args_cons ?_ rfl) rfl rfl
  refine Call_ (ld_blt I hg2 hm2 boot_set ?_)
  refine PyProof.Rows.callWith_type1 (PyProof.Rows.args_cons (thn (ha.run pins s σ H _ I h) fun v s1 ⟨x, H1, I1, r1, q1⟩ => PyProof.Rows.args_nil ?_) na) na rfl
  obtain ⟨l, ns, rfl, hq, hl, k⟩ := q1
  cases r1
  obtain ⟨its, r, pl, hz⟩ := I1.list hq
  refine set_list ns (I1.ok.hd hc) pl.isList (by simpa using RZ.intsAre_vals r) (by unfold scanBound; omega) fun s2 ⟨h', tk, c, e2, R, hc2, kp⟩ => ?_
  subst e2
  refine PyProof.Rows.args_nil ?_
  have I2 : Inv X pins σ H1 { s1 with heap := h', toks := tk } := I1.kept kp
  refine sorted_set R (I2.ok.hd hc) (by omega) fun s' b out c2 ms kp2 g o hp hg hi hs hm hl2 => ?_
  have hlen : (ms.map V.int).length ≤ sizeLine := by rw [List.length_map, hl2, sizeLine_eq]; omega
  have hn : H1 b = none := I2.hok.fresh hp
  have J : Inv X pins σ (upd H1 b (.lst (ms.map V.int))) { ({ s1 with heap := h', toks := tk } : Shared) with heap := s'.heap, gens := s'.gens, drawn := s'.drawn, toks := s'.toks } :=
    I2.call (ch := []) (Un.laid kp2 hp hn) (I2.hok.laid kp2 hp ⟨hlen, out.toList, c2, vals_of_ints hi, hg⟩) (by rw [g]; exact I2.bare) (fun _ z => nomatch z)
  have e : s' = { ({ s1 with heap := h', toks := tk } : Shared) with heap := s'.heap, gens := s'.gens, drawn := s'.drawn, toks := s'.toks } := by
    obtain ⟨a1, a2, a3, a4, a5⟩ := s'
    cases o
    rfl
  rw [e]
  exact ⟨.ref b, _, J, rfl, k ms b hs (fun z => by rw [hm z]; simp) (by omega) hn⟩
def hSortSet (te : TEh) : TEh := fun σ A Q => te σ A fun d A1 => match d with
  | .ptr k => ∃ ns : List Int, A1[k]? = some (.lst (dI ns)) ∧ ns.length ≤ 63 ∧ ∀ ms : List Int, ms.Pairwise (· < ·) → (∀ z : Int, z ∈ ms ↔ z ∈ ns) → ms.length ≤ ns.length → NewQ A1 (.lst (dI ms)) Q
  | _ => False
theorem ph_sortSet {X : Cx} {a : Expr} {te : TEh} {p p2 q pos : Pos} (hg : Gl X "sorted") (hm : X.mg "sorted" = none) (hg2 : Gl X "set") (hm2 : X.mg "set" = none) (ha : PE X a (lift X.K te)) (hc : X.calm = true := by rfl)
    (na : starEach [a] X.env = (false, eval a X.env) :: starEach [] X.env := by rfl) : PE X (.Call (.Name "sorted" p) [.Call (.Name "set" p2) [a] [] q] [] pos) (lift X.K (hSortSet te)) := by
  refine (pe_sortSet hg hm hg2 hm2 ha hc na).imp ?_
  rintro σ H Q ⟨θ, σh, A, Qh, rs, ra, w, k⟩
  refine ⟨θ, σh, A, _, rs, ra, w, fun θ1 H1 A1 v d e1 ra1 r1 w1 => ?_⟩
  cases r1 with
  | ptr hi =>
    obtain ⟨ns, h0, hl, w1⟩ := w1
    obtain ⟨xs, g, r'⟩ := ra1.ok _ _ _ hi h0
    have e : xs = ns.map V.int := RDs.of_scal V.int r'
    subst e
    exact ⟨_, ns, rfl, SqL.of g, hl, fun ms b hs hm hl2 hb => (k.ext e1).lst ra1 (RDs.scal V.int _) (w1 ms hs hm hl2) hb⟩
  | _ => exact w1.elim
section
variable {src : Src} {F : (D → OH → Prop) → (OH → Prop) → D → OH → Prop} {Q : KH} {A : OH}
/-- as LcQ.rel, and what holds hangs on the turn -/
theorem LcQ.relN (J : Nat → OH → Prop) (R : Nat → D → Prop) (hn : src.n ≤ 100000) (h0 : J 0 A) (hl : ∀ i A, J i A → src.live A)
    (hs : ∀ i d, i < src.n → src.item i = some d → ∀ A (kt : D → OH → Prop) (kf : OH → Prop), J i A → (∀ e A', R i e → J (i + 1) A' → kt e A') → F kt kf d A)
    (hq : ∀ acc A, acc.length = src.n → (∀ i e, acc[i]? = some e → R i e) → J src.n A → NewQ A (.lst acc) Q) : LcQ src F Q A :=
  ⟨fun i acc A' => acc.length = i ∧ (∀ i e, acc[i]? = some e → R i e) ∧ J i A', hn, ⟨rfl, (fun _ _ z => by simp at z), h0⟩, fun i acc A' _ j => hl i A' j.2.2, fun i d acc A' hi hd ⟨l, r, j⟩ =>
    hs i d hi hd A' _ _ j fun e A2 re j2 => ⟨by rw [List.length_append, l]; rfl, fun n u hu => by
      rcases Nat.lt_or_ge n acc.length with c | c
      · exact r n u (by rwa [List.getElem?_append_left c] at hu)
      · rw [List.getElem?_append_right c] at hu
        obtain ⟨hz, e⟩ := List.getElem?_eq_some_iff.mp hu
        have hz : n - acc.length = 0 := by simpa using hz
        have en : n = i := by omega
        subst en
        rw [hz] at hu
        cases hu
        exact re, j2⟩, fun acc A' ⟨l, r, j⟩ => hq acc A' l r j⟩
end
end Rp

/-! Tuples of whole numbers that a name of the module holds; as defaults too. -/
namespace Rp
open PySem PySem.Spec PyProof.Rows L2
def TupK (K : PySem.W.Frag) (a : Addr) (ns : List Int) : Prop := ∃ (o : Obj) (its : Array Value) (n : Nat), K.lookup a = some o ∧ o.cls = .type "tuple" ∧ o.data = .seq its n ∧ its.size ≤ sizeLine ∧ Vals (ns.map V.int) its.toList
theorem TupK.rd {K : PySem.W.Frag} {a : Addr} {ns : List Int} {θ : List Addr} {H : Hp} (h : TupK K a ns) : RD K θ H (.ref a) (.tup (dI ns)) := .tup (.inr h) (RDs.scal V.int ns)
section
variable {X : Cx} {a : Addr} {ns : List Int} {x : Str} {p pos : Pos} {k n : Nat} {f : Addr} {fd : FuncData} {ps : List Str} {sp : Sph} {e : Expr} {es : List Expr} {t : TAh} {dd : List V} {dds : List D}
theorem ph_kT (hg : Gl X x) (hm : X.mg x = some (.ref a)) (h : TupK X.K a ns) (hd : (x == ("__debug__" : Str)) = false := by decide) : PE X (.Name x pos) (lift X.K (hC (.tup (dI ns)))) :=
  (pe_glob (v := .ref a) hg hm rfl hd).imp fun σ H Q ⟨θ, σh, A, Qh, rs, ra, w, k⟩ => k.here ra h.rd w
def hCallDT (n : Nat) (dds : List D) (sp : Sph) (t : TAh) : TEh := fun σ A Q => t σ A fun ds A1 => nArgs (ds.length + dds.length) n (Ask sp (ds ++ dds) A1 Q)
theorem ph_callDT (rd : ∀ θ H, RDs X.K θ H dd dds) (F : FnOk X.prog X.w X.K X.mg X.base CX0 k f fd ps (spOf X.K n sp)) (room : Room k X.A) (hg : Gl X x) (hm : X.mg x = some (.ref f)) (hk : PySem.W.keepIn X.K (.ref f) = true) (hb : ∃ us, Vals dd us ∧ L2.Binds X.K fd ps us)
    (ha : PA X (e :: es) (liftA X.K t)) (hdb : (x == ("__debug__" : Str)) = false := by decide) (hst : starEach (e :: es) X.env = (false, eval e X.env) :: starEach es X.env := by rfl)
    (hpl : (backTo pos (starEach es X.env)).any (·.1) = false := by rfl) : PE X (.Call (.Name x p) (e :: es) [] pos) (lift X.K (hCallDT n dds sp t)) := by
  obtain ⟨us, hd, hb⟩ := hb
  exact (pe_call (E := fun _ _ _ => False) F room hg hm hk hb hd pass0 ha hdb hst hpl).imp fun σ H Q ⟨θ, σh, A, Qh, rs, ra, w, k⟩ => ⟨θ, σh, A, _, rs, ra, w, fun θ1 H1 A1 vs ds e1 ra1 r1 w1 => by
    obtain ⟨hn, w1⟩ := nArgs_ok w1
    have l := (rd θ1 H1).length
    exact ⟨by rw [List.length_append, r1.length, l]; exact hn, θ1, _, A1, Qh, r1.append (rd θ1 H1), ra1, w1.h, k.ext e1⟩⟩
end
end Rp

/-! Defs within defs while the one around runs: made, handed to a callee. -/
namespace Rp
open PySem PySem.Spec PyProof.Rows L2 NdefX
/-! ### the statement -/
def hNdef (i : Nat) (P : Addr) (nm : Nat → Nat → Str) (stN : Stmt) (nameN qualN : Str) (cl : List (Str × Addr)) : TSh := fun D σ A => (∃ k : Nat, A[k]? = some (.tab P nm)) ∧ D.nx (σ.set i (some (.lfn stN nameN qualN cl))) A
theorem psh_ndef {X : Cx} {stN : Stmt} {nameN qualN : Str} {c P : Addr} {nm : Nat → Nat → Str} {pos : Pos} {i : Nat} (hst : stN = .FunctionDef nameN (C8.fnArgs stN) (C8.fnBody stN) [] none [] (C8.fnScope stN) none nameN pos) (TB : LamX.TabB X.base X.mg c P) (hcode : X.env.code = .ref c)
    (hq : qualN = X.env.qual ++ nameN) (hn : nm pos.line pos.col = qualN) (hfree : ∀ y ∈ (C8.fnScope stN).names, y.2 = .free → X.env.scope.names.lookup y.1 = some .cell ∨ X.env.scope.names.lookup y.1 = some .free)
    (hd0 : (C8.fnArgs stN).defaults = []) (hk0 : (C8.fnArgs stN).kw_defaults = []) (ha : annTrees (C8.fnArgs stN) none X.env = []) (hN : X.N.Nodup) (hi : X.N[i]? = some nameN) (hx : L2.Loc X.env.scope nameN) (hf : X.fn nameN = true ∨ X.env.scope.names.lookup nameN = some .local) :
    PS X stN (liftS X.K (hNdef i P nm stN nameN qualN (cloFrom X.env.cells (C8.fnScope stN).names []))) := by
  subst hq
  refine ⟨fun pins s σ H D I h => ?_⟩
  obtain ⟨θ, σh, A, Dh, rs, ra, ⟨⟨kk, hk⟩, w⟩, k⟩ := h
  obtain ⟨m1, m2⟩ := tabs_one ra hk
  refine (ps_ndefMS (T := tabsA A) hst TB hcode m1 hn m2 hfree hd0 hk0 ha hN hi hx hf).run pins s σ H D I ⟨tabs_of ra, fun f c' H1 e hnone t hfn hf1 hc1 => ?_⟩
  have sm : Same H1 H1 := fun _ _ h => h
  have e2 := ext_extN e sm hnone (θ := θ)
  exact k.nx _ _ _ _ _ e2 (RS.set (.some (.lfn hf1 ⟨_, _, rfl⟩ hc1)) i (rs.ext e2)) (ra_extN ra e t sm) w
/-! ### a callee runs that is handed some of them -/
section
variable {X : Cx} {pins : List (Addr × Obj)} {σ : L2.St} {H : Hp} {s : Shared} {Q : VK} {us : List Value} {vs dvs : List V} {ds : List Value} {k : Nat} {f : Addr} {fd : FuncData} {ps fr : List Str} {xs : List V} {sp : Sp} {tr : Addr → Option (V × Obj)}
theorem Own.new (I : Inv X pins σ H s) (own : Own X.env.cells s.heap fr xs tr) (hfn : ∀ y ∈ fr, X.fn y = true) {b : Addr} {z : V × Obj} (e : tr b = some z) : X.s_0.heap.objs.size ≤ b ∧ H b = none ∧ b ≠ X.env.locals := by
  obtain ⟨⟨y, hy, hc⟩, ho, u, _, hd⟩ := own.of b z e
  refine ⟨I.ok.cab y b (hfn y hy) hc, I.freeC y b hc, fun q => ?_⟩
  obtain ⟨m, ⟨o, es, ep, h1, h2, _⟩, _⟩ := I.loc
  rw [← q, ho] at h1
  cases h1
  rw [hd] at h2
  cases h2
theorem run_fnL (F : FnOk X.prog X.w X.K X.mg X.base CX0 k f fd ps sp) (hr : Room k X.A) (hb : L2.Binds X.K fd ps ds) (hd : Vals dvs ds) (I : Inv X pins σ H s) (own : Own X.env.cells s.heap fr xs tr) (hfn : ∀ y ∈ fr, X.fn y = true) (r : Vals vs us)
    (h : sp (vs ++ dvs) (track tr H) (fun v H' => (∀ b z, tr b = some z → H' b = some (CellO b z)) ∧ ((∀ b z q, tr b = some z → H' b ≠ some (LamX.CodeO b q)) → Q v (untrack tr H'))) (fun _ _ _ => False)) : wpAny (model X.prog X.w) X.A (call (.ref f) us) (EP X pins σ Q) X.xe s := by
  have r2 : Vals (vs ++ dvs) (us ++ ds) := r.append hd
  have hl : (us ++ ds).length = ps.length := by rw [← r2.length]; exact F.len _ _ _ _ h
  have en := I.env0
  have new : ∀ {b : Addr} {z : V × Obj}, tr b = some z → X.s_0.heap.objs.size ≤ b ∧ H b = none ∧ b ≠ X.env.locals := fun e => own.new I hfn e
  have out : ∀ {b : Addr} {o : HO}, H b = some o → tr b = none := fun {b o} e => by
    cases z : tr b with
    | none => rfl
    | some x => rw [(new z).2.1] at e; cases e
  have fro : ∀ b ∈ frs X.stack, tr b = none := fun b hb => by
    cases z : tr b with
    | none => rfl
    | some x =>
      obtain ⟨n1, n2, n3⟩ := new z
      have out : b ∈ X.fs → False := fun hb => by
        obtain ⟨_, o, ho, _⟩ := I.ok.funs.mem hb
        exact absurd (Heap.lt_size ho) (Nat.not_lt.mpr n1)
      rcases I.ok.stk with e | ⟨e, e2⟩
      · rw [e] at hb; exact (out hb).elim
      · rw [e] at hb
        have hb : b ∈ (X.env :: X.outer).filterMap (·.frame) := hb
        rw [List.filterMap_cons, e2] at hb
        rcases List.mem_cons.mp hb with q | hb
        · exact absurd q n3
        · exact (out hb).elim
  have en' : Env0 X.prog X.w X.K X.mg X.base X.A X.stack s (track tr H) := ⟨en.frames, en.mod, fun b o e => ⟨(en.bs b o e).1, by
      cases z : tr b with
      | none => rw [track_out z]; exact (en.bs b o e).2
      | some x => exact absurd (Nat.lt_of_lt_of_le (Heap.lt_size e) I.ok.bsz) (Nat.not_lt.mpr (new z).1)⟩, en.bsz, en.funs, fun b hb => by rw [track_out (fro b hb)]; exact en.frf b hb, fun a o e => by
      cases z : tr a with
      | some x =>
        rw [track_in z] at e
        cases e
        exact cellO_ok (own.of a x z).2
      | none =>
        rw [track_out z] at e
        exact (en.hok a o e).stay (fun b u _ e => e) (fun b e => by rw [track_out (out e)]; exact e) (fun b xs e => by rw [track_out (out e)]; exact e), en.bare⟩
  refine wpAny_call (codeAny_mono (F.run X.A X.stack s (track tr H) ⟨us, []⟩ (us ++ ds) (vs ++ dvs) _ _ hr en' (hb s us I.kIn hl) r2 h) fun r s' hq => ?_)
  cases r with
  | error e => exact hq.elim
  | ok fl =>
    cases fl with
    | ret u =>
      obtain ⟨v, H', os, bare, un, hok, rv, cells, q⟩ := hq
      replace q := q fun b z n e q => by
        have h1 := cellO_at hok (cells b z e)
        obtain ⟨⟨oc, ws, t, h2, h3, _⟩, _⟩ := hok b _ q
        rw [h1.1] at h2
        cases h2
        obtain ⟨_, u, _, hd⟩ := h1
        rw [h3] at hd
        cases hd
      have at_ : ∀ {b : Addr} {z : V × Obj}, tr b = some z → s'.heap.get? b = some z.2 := fun {b z} e => (cellO_at hok (cells b z e)).1
      refine I.after ⟨v, untrack tr H', os, bare, ⟨fun b o e hb nf nx => ?_, fun b o e hb hf nx => ?_, fun b o e hb nx => ?_, un.there, fun b xs e => ?_, fun b o u e => ?_, fun b ps e => ?_⟩, fun a o e => ?_, rv, q⟩
      · cases z : tr b with
        | none => exact un.keep b o e (by rw [track_out z]; exact hb) nf nx
        | some x =>
          rw [at_ z]
          rw [(own.of b x z).2.1] at e
          exact e
      · exact un.slot b o e (by rw [track_out (fro b hf)]; exact hb) hf nx
      · cases z : tr b with
        | none => rw [untrack_out z]; exact un.free b o e (by rw [track_out z]; exact hb) nx
        | some x => exact untrack_in z
      · rw [untrack_out (out e)]; exact un.tups b xs (by rw [track_out (out e)]; exact e)
      · rw [untrack_out (out e)]; exact un.frzs b o u (by rw [track_out (out e)]; exact e)
      · obtain ⟨more, m⟩ := un.tbls b ps (by rw [track_out (out e)]; exact e)
        exact ⟨more, by rw [untrack_out (out e)]; exact m⟩
      · cases z : tr a with
        | some x => rw [untrack_in z] at e; cases e
        | none =>
          rw [untrack_out z] at e
          have keep : ∀ {b : Addr} {o : HO}, H' b = some o → (∀ w, o ≠ CellO b w) → untrack tr H' b = some o := fun {b o} e n => by
            cases z : tr b with
            | none => rw [untrack_out z]; exact e
            | some x => rw [cells b x z] at e; exact absurd (Option.some.inj e).symm (n x)
          exact (hok a o e).stay (fun b u _ e => e) (fun b e => keep e fun w q => by cases q) (fun b xs e => keep e fun w q => by cases q)
    | next => exact False.elim hq
    | brk => exact False.elim hq
    | cont => exact False.elim hq
end
end Rp

/-! A call that hands defs within the running one to a callee, over data. -/
namespace Rp
open PySem PySem.Spec PyProof.Rows L2 NdefX
def hideA (H : Hp) (θ : List Addr) (A : OH) : OH := A.mapIdx fun i o => if noFnO o then o else .raw ((θ[i]?.bind H).getD (.lst []))
section
variable {K : PySem.W.Frag} {θ θ' : List Addr} {H H' : Hp} {A A3 A4 : OH} {cells : List (Str × Addr)} {h0 : Heap} {fr : List Str} {xs : List V} {tr : Addr → Option (V × Obj)}
theorem hide_len : (hideA H θ A).length = A.length := List.length_mapIdx
theorem hide_at {i : Nat} {o : O} (h : A[i]? = some o) (n : noFnO o = true) : (hideA H θ A)[i]? = some o := by
  unfold hideA
  rw [List.getElem?_mapIdx, h]
  show some (if noFnO o = true then o else _) = some o
  rw [if_pos n]
theorem hide_raw {i : Nat} {o : O} {a : Addr} {u : HO} (h : A[i]? = some o) (n : noFnO o = false) (h1 : θ[i]? = some a) (hu : H a = some u) : (hideA H θ A)[i]? = some (.raw u) := by
  unfold hideA
  rw [List.getElem?_mapIdx, h]
  show some (if noFnO o = true then o else .raw ((θ[i]?.bind H).getD (.lst []))) = _
  rw [n, if_neg (by decide), h1]
  show some (O.raw ((H a).getD (.lst []))) = _
  rw [hu]; rfl
theorem hide_ra (ra : RA K θ H A) (s : Stab0 H H') (mu : ∀ a u, H a = some u → Mu (some u) → H' a = some u) (own : ∀ dx a, H dx = some (.own a) → H' dx = some (.own a)) : RA K θ H' (hideA H θ A) :=
  ⟨by rw [hide_len]; exact ra.len, ra.nd, fun i a o h1 h2 => by
    have hi : i < A.length := by rw [← ra.len]; exact (List.getElem?_eq_some_iff.mp h1).1
    have h3 : A[i]? = some A[i] := List.getElem?_eq_getElem hi
    have r := ra.ok i a _ h1 h3
    obtain ⟨u, hu, m⟩ := r.mut
    cases n : noFnO A[i] with
    | true =>
      rw [hide_at h3 n] at h2
      cases h2
      exact r.nofn s n (by rw [hu, mu _ _ hu m]) fun dx => own dx a
    | false =>
      rw [hide_raw h3 n h1 hu] at h2
      cases h2
      refine ⟨mu _ _ hu m, m, fun ps z => ?_⟩
      subst z
      generalize A[i] = o at *
      cases o with
      | lst ds => obtain ⟨xs, h, _⟩ := r; rw [hu] at h; cases h
      | ins C fs => obtain ⟨dx, xs, h, _⟩ := r; rw [hu] at h; cases h
      | dK kvs => obtain ⟨xs, h, _⟩ := r; rw [hu] at h; cases h
      | raw u => cases n
      | tab P nm => cases n⟩
/-- what a callee leaves, seen again by the one that called: what held defs is as it was, or hidden -/
structure Back (A A4 A5 : OH) : Prop where
  kq : Kq [] A A5
  new : ∀ (i : Nat) (o : O), A.length ≤ i → A4[i]? = some o → noFnO o = true → A5[i]? = some o
variable (own : Own cells h0 fr xs tr) (none_ : ∀ b z, tr b = some z → H b = none)
include none_
theorem tr_out {b : Addr} {o : HO} (e : H b = some o) : tr b = none := by
  cases z : tr b with
  | none => rfl
  | some x => rw [none_ b x z] at e; cases e
theorem track_same : Same H (track tr H) := fun b o e => by rw [track_out (tr_out none_ e)]; exact e
end
section
variable {K : PySem.W.Frag} {θ θ' : List Addr} {H H' : Hp} {A A3 A4 : OH} {tr : Addr → Option (V × Obj)}
theorem unt_keep (cl : ∀ b z, tr b = some z → H' b = some (CellO b z)) {b : Addr} {o : HO} (h : H' b = some o) (n : ∀ w, o ≠ CellO b w) : untrack tr H' b = some o := by
  cases z : tr b with
  | none => rw [untrack_out z]; exact h
  | some x => rw [cl b x z] at h; exact absurd (Option.some.inj h).symm (n x)
theorem unt_stab0 (cl : ∀ b z, tr b = some z → H' b = some (CellO b z)) (nc : ∀ b z q, tr b = some z → H' b ≠ some (LamX.CodeO b q)) : Stab0 H' (untrack tr H') := ⟨fun a xs h => unt_keep cl h fun w z => (by cases z), fun a o u h => unt_keep cl h fun w z => (by cases z), fun c q h => by
  cases z : tr c with
  | none => rw [untrack_out z]; exact h
  | some x => exact absurd h (nc c x q z)⟩
theorem mu_cell {b : Addr} {u : HO} (m : Mu (some u)) (w : V × Obj) : u ≠ CellO b w := fun z => by subst z; exact m
theorem back_ext (none_ : ∀ b z, tr b = some z → H b = none) (e : Ext θ (track tr H) θ' H') (cl : ∀ b z, tr b = some z → H' b = some (CellO b z)) : Ext θ H θ' (untrack tr H') := by
  have sm := track_same none_
  have un : ∀ {b : Addr} {o : HO}, H b = some o → untrack tr H' b = H' b := fun h => untrack_out (tr_out none_ h)
  refine ⟨e.pre, fun a ha => ?_, fun b o nb h => ?_, ⟨fun a xs h => ?_, fun a o u h => ?_, fun a p h => ?_⟩⟩
  · rcases e.new a ha with h | h
    · exact .inl h
    · cases z : tr a with
      | none => rw [track_out z] at h; exact .inr h
      | some x => exact .inr (none_ a x z)
  · rw [un h]; exact e.stay b o nb (sm _ _ h)
  · rw [un h]; exact e.stab.tup _ _ (sm _ _ h)
  · rw [un h]; exact e.stab.frz _ _ _ (sm _ _ h)
  · rw [un h]; exact e.stab.ext _ _ (sm _ _ h)
theorem back_ra (none_ : ∀ b z, tr b = some z → H b = none) (ra : RA K θ H A) (e : Ext θ (track tr H) θ' H') (cl : ∀ b z, tr b = some z → H' b = some (CellO b z)) (nc : ∀ b z q, tr b = some z → H' b ≠ some (LamX.CodeO b q)) (ra' : RA K θ' H' A4) (kq : Kq [] (hideA H θ A) A4) :
    ∃ A5, RA K θ' (untrack tr H') A5 ∧ Back A A4 A5 := by
  have hl : A.length ≤ A4.length := by have := kq.len; rw [hide_len] at this; exact this
  have s0 := unt_stab0 cl nc
  have er := back_ext none_ e cl
  have mu2 : ∀ {a : Addr} {u : HO}, H' a = some u → Mu (some u) → untrack tr H' a = H' a := fun h m => by rw [unt_keep cl h (mu_cell m), h]
  have own2 : ∀ dx a, H' dx = some (.own a) → untrack tr H' dx = some (.own a) := fun dx a h => unt_keep cl h fun w z => by cases z
  refine ⟨(A4.mapIdx fun i o => if i < A.length then A.getD i o else if noFnO o then o else .raw ((θ'[i]?.bind H').getD (.lst []))), ⟨by rw [List.length_mapIdx]; exact ra'.len, ra'.nd, fun i a o h1 h2 => ?_⟩, ⟨⟨fun i o _ h => ?_, by rw [List.length_mapIdx]; exact hl⟩, fun i o hi h n => ?_⟩⟩
  · rw [List.getElem?_mapIdx] at h2
    obtain ⟨o4, h4, h2⟩ := Option.map_eq_some_iff.mp h2
    by_cases hi : i < A.length
    · rw [if_pos hi] at h2
      have h3 : A[i]? = some o := by rw [List.getD_eq_getElem?_getD, List.getElem?_eq_getElem hi] at h2; rw [List.getElem?_eq_getElem hi]; exact congrArg some h2
      obtain ⟨t, et⟩ := e.pre
      have h1' : θ[i]? = some a := by rw [et, List.getElem?_append_left (by rw [ra.len]; exact hi)] at h1; exact h1
      cases n : noFnO o with
      | true =>
        have r := ra'.ok i a o h1 (kq.old0 (hide_at h3 n))
        obtain ⟨u, hu, m⟩ := r.mut
        exact r.nofn s0 n (mu2 hu m) fun dx => own2 dx a
      | false =>
        have r := ra.ok i a o h1' h3
        obtain ⟨u, hu, m⟩ := r.mut
        have h5 : H' a = some u := (ra'.ok i a _ h1 (kq.old0 (hide_raw h3 n h1' hu))).1
        have st := r.stab (t := t) er.stab (by rw [mu2 h5 m, h5, hu]) fun dx ed => er.keep (fun z => by
          obtain ⟨u', hu', m'⟩ := ra.mut z
          rw [ed] at hu'
          cases hu'
          exact m') ed fun _ z => nomatch z
        rw [← et] at st
        exact st
    · rw [if_neg hi] at h2
      have r := ra'.ok i a o4 h1 h4
      obtain ⟨u, hu, m⟩ := r.mut
      cases n : noFnO o4 with
      | true =>
        rw [n, if_pos rfl] at h2
        subst h2
        exact r.nofn s0 n (mu2 hu m) fun dx => own2 dx a
      | false =>
        rw [n, if_neg (by decide), h1] at h2
        have h2 : O.raw ((H' a).getD (.lst [])) = o := h2
        rw [hu] at h2
        subst h2
        refine ⟨by rw [mu2 hu m]; exact hu, m, fun ps z => ?_⟩
        have z : u = .tbl ps := z
        subst z
        cases o4 with
        | lst ds => obtain ⟨xs, h, _⟩ := r; rw [hu] at h; cases h
        | ins C fs => obtain ⟨dx, xs, h, _⟩ := r; rw [hu] at h; cases h
        | dK kvs => obtain ⟨xs, h, _⟩ := r; rw [hu] at h; cases h
        | raw u => cases n
        | tab P nm => cases n
  · have hi := lt_of_at h
    have h4 : A4[i]? = some A4[i] := List.getElem?_eq_getElem (by omega)
    rw [List.getElem?_mapIdx, h4]
    show some (if i < A.length then A.getD i A4[i] else _) = some o
    rw [if_pos hi, List.getD_eq_getElem?_getD, h]
    rfl
  · rw [List.getElem?_mapIdx, h]
    show some (if i < A.length then A.getD i o else if noFnO o = true then o else _) = some o
    rw [if_neg (by omega), if_pos n]
end
/-! ### the arguments -/
/-- the running def's own defs are handed on with what they hold -/
inductive Lows (cells : List (Str × Addr)) (frA : List Str) (caps : List D) : List D → List D → Prop
  | nil : Lows cells frA caps [] []
  | keep {d : D} {ds ds' : List D} (t : Lows cells frA caps ds ds') : Lows cells frA caps (d :: ds) (d :: ds')
  | low {st : Stmt} {name qual : Str} {fr : List Str} {sub : List D} {ks : List Nat} {ds ds' : List D} (hf : ∀ y ∈ (C8.fnScope st).names, y.2 = NameKind.free → y.1 ∈ fr) (hn : ∀ y ∈ fr, (y, NameKind.free) ∈ (C8.fnScope st).names) (hk : ks.map (fun k => frA[k]?) = fr.map some) (hs : ks.map (fun k => caps[k]?) = sub.map some)
      (t : Lows cells frA caps ds ds') : Lows cells frA caps (.lfn st name qual (cloFrom cells (C8.fnScope st).names []) :: ds) (.fn st name qual fr sub :: ds')
theorem rds_pick {K : PySem.W.Frag} {θ : List Addr} {H : Hp} {xs : List V} {caps : List D} (r : RDs K θ H xs caps) : ∀ {ks : List Nat} {sub : List D}, ks.map (fun k => caps[k]?) = sub.map some → ∃ ys, RDs K θ H ys sub ∧ ks.map (fun k => xs[k]?) = ys.map some
  | [], [], _ => ⟨[], .nil, rfl⟩
  | [], _ :: _, h => by cases h
  | _ :: _, [], h => by cases h
  | k :: ks, d :: sub, h => by
    rw [List.map_cons, List.map_cons] at h
    injection h with h1 h2
    obtain ⟨v, e, rv⟩ := r.get h1
    obtain ⟨ys, ry, ey⟩ := rds_pick r h2
    exact ⟨v :: ys, .cons rv ry, by rw [List.map_cons, List.map_cons, e, ey]⟩
theorem Lows.rds {K : PySem.W.Frag} {θ : List Addr} {H H' : Hp} {cells : List (Str × Addr)} {frA : List Str} {caps : List D} {xs : List V} {h0 : Heap} {tr : Addr → Option (V × Obj)} (own : Own cells h0 frA xs tr) (has : ∀ y ∈ frA, ∃ c, cells.lookup y = some c) (inj : ∀ x y c, cells.lookup x = some c → cells.lookup y = some c → x = y)
    (sm : Same H H') (ht : ∀ b z, tr b = some z → H' b = some (CellO b z)) (rx : RDs K θ H' xs caps) : ∀ {ds ds' : List D} {vs : List V}, Lows cells frA caps ds ds' → RDs K θ H vs ds → RDs K θ H' vs ds'
  | _, _, _, .nil, .nil => .nil
  | _, _, _, .keep t, .cons h r => by
    have e2 := (h.ext (Ext.same (θ := θ) sm))
    exact .cons e2 (Lows.rds own has inj sm ht rx t r)
  | _, _, _, .low (st := st) (fr := fr) (ks := ks) hf hn hk hs t, .cons h r => by
    obtain ⟨ys, ry, ey⟩ := rds_pick rx hs
    generalize ecl : cloFrom cells (C8.fnScope st).names [] = cl at h
    cases h with
    | lfn hF g hc =>
      have inA : ∀ y ∈ fr, y ∈ frA := fun y hy => by
        obtain ⟨i, hi⟩ := List.mem_iff_getElem?.mp hy
        have h1 := congrArg (fun l : List (Option Str) => l[i]?) hk
        simp only [List.getElem?_map, hi] at h1
        obtain ⟨k, _, e⟩ := Option.map_eq_some_iff.mp h1
        exact List.mem_of_getElem? e
      have hf' : ∀ y, (y, NameKind.free) ∈ (C8.fnScope st).names → y ∈ fr := fun y h => hf (y, .free) h rfl
      have hc' : ∀ y ∈ fr, ∃ c, cells.lookup y = some c := fun y hy => has y (inA y hy)
      have lens : ys.length = fr.length := by
        have h1 := congrArg List.length hk
        have h2 := congrArg List.length ey
        simp only [List.length_map] at h1 h2
        omega
      refine .cons (.fn (sm _ _ hF) g (sm _ _ hc) ⟨lens, fun i y hy => ?_, fun y c h => ?_, fun x y c h1 h2 => ?_⟩ ry) (Lows.rds own has inj sm ht rx t r)
      · have h1 := congrArg (fun l : List (Option Str) => l[i]?) hk
        simp only [List.getElem?_map, hy] at h1
        obtain ⟨k, hki, e⟩ := Option.map_eq_some_iff.mp h1
        have h2 := congrArg (fun l : List (Option V) => l[i]?) ey
        simp only [List.getElem?_map, hki] at h2
        obtain ⟨c, z, hcc, hz1, hz2⟩ := own.has k y e
        have hil : i < ys.length := by rw [lens]; exact (List.getElem?_eq_some_iff.mp hy).1
        rw [List.getElem?_eq_getElem hil] at h2
        have h2 : some (xs[k]?) = some (some ys[i]) := h2
        have h2 := Option.some.inj h2
        rw [hz1] at h2
        refine ⟨c, z, by rw [← ecl]; exact clo_has hf' hc' hn (List.mem_of_getElem? hy) hcc, ?_, ht c z hz2⟩
        rw [List.getElem?_eq_getElem hil, ← Option.some.inj h2]
      · rw [← ecl] at h
        exact (clo_some hf' hc' h).1
      · rw [← ecl] at h1 h2
        exact inj x y c (clo_some hf' hc' h1).2 (clo_some hf' hc' h2).2
/-! ### the call -/
section
variable {X : Cx} {k n : Nat} {f : Addr} {fd : FuncData} {ps : List Str} {sp : Sph} {x : Str} {p pos : Pos} {e : Expr} {es : List Expr} {t : TAh} {cells : List (Str × Addr)} {frA : List Str} {js : List Nat}
def hCallL (cells : List (Str × Addr)) (frA : List Str) (js : List Nat) (n : Nat) (sp : Sph) (t : TAh) : TEh := fun σ A Q => t σ A fun ds A1 => ∃ caps : List D, js.map (fun j => σ[j]?) = caps.map (fun d => some (some d)) ∧ ∃ ds', Lows cells frA caps ds ds' ∧ nArgs ds'.length n
  (∀ A2, Hid A1 A2 → Ask sp ds' A2 fun d A3 => noFn d = true ∧ Kq [] A2 A3 ∧ ∀ A4, Back A1 A3 A4 → Q d A4)
theorem Lows.length {caps ds ds' : List D} (h : Lows cells frA caps ds ds') : ds'.length = ds.length := by
  induction h with
  | nil => rfl
  | keep t ih => rw [List.length_cons, List.length_cons, ih]
  | low _ _ _ _ t ih => rw [List.length_cons, List.length_cons, ih]
theorem ph_callL (F : FnOk X.prog X.w X.K X.mg X.base CX0 k f fd ps (spOf X.K n sp)) (room : Room k X.A) (hg : Gl X x) (hm : X.mg x = some (.ref f)) (hk : PySem.W.keepIn X.K (.ref f) = true) (hb : L2.Binds X.K fd ps []) (hcells : X.env.cells = cells)
    (hfr : frA.Nodup) (hkc : ∀ y ∈ frA, X.env.scope.names.lookup y = some .cell) (hfn : ∀ y ∈ frA, X.fn y = true) (hjs : js.map (fun j => X.N[j]?) = frA.map some)
    (ha : PA X (e :: es) (liftA X.K t)) (hdb : (x == ("__debug__" : Str)) = false := by decide) (hst : starEach (e :: es) X.env = (false, eval e X.env) :: starEach es X.env := by rfl)
    (hpl : (backTo pos (starEach es X.env)).any (·.1) = false := by rfl) : PE X (.Call (.Name x p) (e :: es) [] pos) (lift X.K (hCallL cells frA js n sp t)) := by
  subst hcells
  refine ⟨fun pins s σ H Q I ⟨θ, σh, A, Qh, rs, ra, w, k⟩ => ?_⟩
  refine wpAny_Call_Name_kw (ld_glob I hg hm ?_ hdb)
  have hA : liftA X.K t σ H (fun vs H1 => ∃ xs : List V, js.map (fun j => σ[j]?) = xs.map (fun x => some (some x)) ∧ ∀ h0 tr, Own X.env.cells h0 frA xs tr → (∀ b z, tr b = some z → H1 b = none) → (∀ b q, H1 b = some (LamX.CodeO b q) → tr b = none) →
      spOf X.K n sp vs (track tr H1) (fun v H' => (∀ b z, tr b = some z → H' b = some (CellO b z)) ∧ ((∀ b z q, tr b = some z → H' b ≠ some (LamX.CodeO b q)) → Q v (untrack tr H'))) (fun _ _ _ => False)) :=
    ⟨θ, σh, A, _, rs, ra, w, fun θ1 H1 A1 vs ds e1 ra1 r1 w1 => by
      obtain ⟨caps, hcaps, ds', low, w1⟩ := w1
      obtain ⟨hn, w1⟩ := nArgs_ok w1
      obtain ⟨xs, rx, ex⟩ := rs_caps (rs.ext e1) hcaps
      refine ⟨xs, ex, fun h0 tr own none_ nc => ?_⟩
      have sm := track_same none_
      have rx2 : RDs X.K θ1 (track tr H1) xs caps := rx.ext (Ext.same (θ := θ1) sm)
      have rd2 := low.rds own (fun y hy => by
        obtain ⟨i, hi⟩ := List.mem_iff_getElem?.mp hy
        obtain ⟨c, z, hc, _⟩ := own.has i y hi
        exact ⟨c, hc⟩) I.ok.inj sm (fun b z => track_in) rx2 r1
      have st0 : Stab0 H1 (track tr H1) := ⟨fun a xs h => sm _ _ h, fun a o u h => sm _ _ h, fun c q h => sm _ _ h⟩
      have ra2 := hide_ra ra1 st0 (fun a u h _ => sm _ _ h) fun dx a h => sm _ _ h
      refine ⟨by rw [r1.length, ← low.length]; exact hn, θ1, ds', hideA H1 θ1 A1, _, rd2, ra2, (w1 _ ⟨hide_len, fun i o h n => hide_at h n⟩).h, fun θ' H' A' v d e' ra' rd q => ?_⟩
      obtain ⟨nd, kq, q⟩ := q
      have cl : ∀ b z, tr b = some z → H' b = some (CellO b z) := fun b z h => e'.stab.ext _ _ (track_in h)
      refine ⟨cl, fun nc' => ?_⟩
      obtain ⟨A5, ra5, bk⟩ := back_ra none_ ra1 e' cl nc' ra' kq
      exact k _ _ _ _ _ (e1.trans (back_ext none_ e' cl)) ra5 (rd.nofn (unt_stab0 cl nc') nd) (q _ bk)⟩
  refine PySem.W.callWith_K (h₀ := X.base) I.ok.mod.kin hk (thn (ha.run pos pins s σ H _ I hA) fun us s1 ⟨vs, H1, I1, r, xs, hxs, q⟩ => ⟨I1.kIn, ?_⟩) hst hpl
  obtain ⟨tr, own⟩ := own_cells (xs := xs) I1 hfr hkc fun i y hy => by
    have h1 := congrArg (fun l : List (Option Str) => l[i]?) hjs
    simp only [List.getElem?_map, hy] at h1
    obtain ⟨j, hj, e⟩ := Option.map_eq_some_iff.mp h1
    have h2 := congrArg (fun l : List (Option (Option V)) => l[i]?) hxs
    simp only [List.getElem?_map, hj] at h2
    obtain ⟨z, hz, e2⟩ := Option.map_eq_some_iff.mp h2.symm
    exact ⟨j, z, e, e2.symm, hz⟩
  have nw : ∀ b z, tr b = some z → H1 b = none := fun b z h => (own.new I1 hfn h).2.1
  refine run_fnL (dvs := []) (ds := []) F room hb .nil I1 own hfn r ?_
  rw [List.append_nil]
  exact q _ _ own nw fun b q h => tr_out nw h
end
/-! ### a def with defs within it -/
section
variable {P : Program} {w : World} {K : PySem.W.Frag} {mg : Str → Option Value} {base : Heap}
theorem okHc {x qual : Str} {st : Stmt} {f : Addr} {fd : FuncData} {N ps : List Str} {k : Nat} {sp : Sph} (F : Fun K x qual st f fd) (S : FnScope N ps (defScope st))
    (hb : ∀ (cdv : Value) (A : Around) (outer : List Env) (s : Shared) (H : Hp) (E : XK), fd.code = cdv → Room k (A.deeper (envOfC qual (defScope st) s.heap.objs.size f cdv)) →
      ∃ t, PSs (cxOf CX0 P w K mg base N qual (defScope st) f cdv A outer s H E).nox (defBody st) (liftS K t) ∧ ∀ ds A Q, sp ds A Q → t (endH Q) (startH N.length ds) A) : FnOk P w K mg base CX0 (k + 1) f fd ps (spOf K ps.length sp) := by
  obtain ⟨oc, od, kV, doc, pm, an, cdv, ct, osl, rfl, lk, hcd⟩ := F.ex
  refine fn_of lk hcd S (fun vs H Q E h => h.1) fun A outer s H vs Q E hr hsp => ?_
  obtain ⟨t, body, go⟩ := hb cdv A outer s H E rfl hr
  exact ⟨_, body.nox, body_h hsp go⟩
end
def stPos : Stmt → Pos
  | .FunctionDef _ _ _ _ _ _ _ _ _ p => p
  | _ => ⟨0, 0, 0, 0⟩
end Rp

/-! A tuple by a number from one on; extend. -/
namespace Rp
open PySem PySem.Spec PyProof.Rows L2 TL
theorem tuple_mulOne (l : Addr) (items : Array Value) (n : Nat) (dd : Option Addr) (sl : Array (Option Value)) (u : Tok) :
    Meets (Builtin.«tuple.__mul__» ⟨[.ref l, .int 1 u], []⟩) (fun _ R s => s.heap.get? l = some { cls := .type "tuple", dict := dd, data := .seq items n, slots := sl } ∧ R (.ok (.ret (Value.ref l))) s) :=
  .of_wp fun prog w A R s h => by
    obtain ⟨hp, g, d, tk, os⟩ := s
    obtain ⟨hl, h⟩ := h
    have f1 := AutoSeq1.idx_int
    wp_walk using AutoSeq1.wpAny_loadPart' hl
    exact ⟨_, rfl, h⟩
def rRepT1 (K : PySem.W.Frag) : R2 := fun x y H Q => ∃ l k xs, x = .ref l ∧ y = .int k ∧ SqT K H l xs ∧ xs ≠ [] ∧ 1 ≤ k ∧ k ≤ 1000 ∧ xs.length ≤ 1000 ∧ (k = 1 → Q (.ref l) H) ∧ (2 ≤ k → ∀ p, H p = none → Q (.ref p) (upd H p (.tup (List.replicate k.toNat xs).flatten)))
theorem op_repT1 {X : Cx} : OpR X (binaryOp .Mult) (rRepT1 X.K) := by
  intro pins s σ H x y v u Q I rx ry h
  obtain ⟨l, k, xs, rfl, rfl, hT, hne, h1, h2, hz, q1, q2⟩ := h
  by_cases c : k = 1
  · subst c
    cases rx
    obtain ⟨t, rfl⟩ := ry
    obtain ⟨its, r, ⟨⟨cls, dd, data, sl⟩, ho, hc, n, hd⟩, hs⟩ := I.tuple hT
    simp only at hc hd
    subst hc hd
    refine wpAny_binaryOp_repeat_ref (T := "tuple") (U := "int") (by decide) ⟨_, ho, rfl⟩ (fun s' => typeIs_int s' 1 t) noFill_tuple_mul PySem.F.fills_int_mul PySem.F.slot_int_rmul repeat_tuple PySem.F.slot_int_index.lookup
      (call_meets PySem.F.slot_int_rmul (typeIs_int s 1 t) PySem.F.entry_int_rmul (PySem.F.args_int_rmul_2 _ _) (int_rmul_tuple 1 t l its.toArray n dd sl)
        ⟨ho, rfl, ⟨_, ho, rfl⟩, call_meets PySem.F.slot_tuple_mul ⟨_, ho, rfl⟩ PySem.F.entry_tuple_mul (PySem.F.args_tuple_mul_2 _ _) (tuple_mulOne l its.toArray n dd sl t) ⟨ho, ?_⟩⟩)
    exact ⟨.ref l, H, I, rfl, q1 rfl⟩
  · exact op_repT pins s σ H _ _ v u Q I rx ry ⟨l, k, xs, rfl, rfl, hT, hne, by omega, h2, hz, q2 (by omega)⟩
def hRepT1 : R2h
  | .tup ds, .v (.int k), A, Q => (ds ≠ [] ∧ 1 ≤ k ∧ k ≤ 1000 ∧ ds.length ≤ 1000) ∧ Q (.tup (List.replicate k.toNat ds).flatten) A
  | _, _, _, _ => False
theorem l_repT1 {K : PySem.W.Frag} : LR K (rRepT1 K) hRepT1 := by
  intro θ H A x y d e Q Qh rd re ra w k
  unfold hRepT1 at w
  split at w
  · obtain ⟨⟨h1, h2, h3, h4⟩, q⟩ := w
    cases re
    have rd' := rd
    cases rd with
    | tup hs r =>
      refine ⟨_, _, _, rfl, rfl, hs, fun z => h1 ?_, h2, h3, by rw [r.length]; exact h4, fun z => ?_, fun z p hp => k.tup ra (r.replicate _) q hp⟩
      · rw [z] at r
        cases r
        rfl
      · subst z
        have q : Qh (.tup (List.replicate 1 _).flatten) A := q
        rw [List.replicate_one, List.flatten_singleton] at q
        exact k.here ra rd' q
  · exact w.elim
section
variable {X : Cx} {o e : Expr} {es : List Expr} {ta : TEh} {t : TAh} {apos pos : Pos}
def hExt (to : TEh) (t : TAh) : TEh := fun σ A Q => to σ A fun x A1 => match x with
  | .ptr k => (∃ es, A1[k]? = some (.lst es)) ∧ t σ A1 fun ds A2 => match ds with
    | [.ptr j] => ∃ es zs, A2[k]? = some (.lst es) ∧ A2[j]? = some (.lst zs) ∧ es.length + zs.length ≤ 100000 ∧ PutQ A2 k (.lst (es ++ zs)) (Q (.v .non))
    | _ => False
  | _ => False
theorem ph_ext (ho : PE X o (lift X.K ta)) (ha : PA X (e :: es) (liftA X.K t))
    (hbase : attributeBase o "extend" X.env (eval o X.env) = eval o X.env := by rfl)
    (hfew : ((backTo pos (starEach (e :: es) X.env)).all (fun x => !x.1) && (backToKw pos (keywordEach [] X.env)).all (fun x => x.1.isSome)
      && decide ((e :: es).length + ([] : List Keyword).length + (if ([] : List Keyword).isEmpty then 0 else 1) < 30)) = true := by rfl)
    (hline : (apos.endLine == pos.line) = true := by rfl) (hs : starEach (e :: es) X.env = (false, eval e X.env) :: starEach es X.env := by rfl) (hplain : (backTo pos (starEach es X.env)).any (·.1) = false := by rfl) :
    PE X (.Call (.Attribute o "extend" apos) (e :: es) [] pos) (lift X.K (hExt ta t)) :=
  (pe_bm PySem.F.plainAttrs_list PySem.F.slot_list_extend PySem.F.type_list_extend mt_extend ho ha hbase hfew hline hs hplain).imp fun σ H Q ⟨θ, σh, A, Qh, rs, ra, w, k⟩ => ⟨θ, σh, A, _, rs, ra, w, fun θ1 H1 A1 v d e1 ra1 r1 w1 => by
    split at w1
    · obtain ⟨⟨es, h0⟩, w1⟩ := w1
      cases r1 with
      | ptr hi =>
        obtain ⟨xs, g, _⟩ := ra1.ok _ _ _ hi h0
        refine ⟨.inl ⟨rfl, xs, SqL.of g⟩, θ1, σh, A1, _, rs.ext e1, ra1, w1, fun θ2 H2 A2 vs ds e2 ra2 r2 w2 => ?_⟩
        split at w2
        · obtain ⟨es, zs, h2, h3, hz, w2⟩ := w2
          obtain ⟨y, rfl, ry⟩ := r2.one
          have hi' : RD X.K θ2 H2 (.ref _) (.ptr _) := (RD.ptr hi).ext e2
          cases hi' with
          | ptr hi' =>
            cases ry with
            | ptr hj =>
              obtain ⟨ys, g2, rx⟩ := ra2.ok _ _ _ hi' h2
              obtain ⟨us, g3, ru⟩ := ra2.ok _ _ _ hj h3
              obtain ⟨q1, q2, q3⟩ := ra2.putL hi' h2 (rx.append ru)
              have ez : sizeLine = 16777216 := sizeLine_eq
              exact ⟨_, _, ys, us, rfl, rfl, g2, g3, by rw [rx.length, ru.length]; omega, k _ _ _ _ _ ((e1.trans e2).trans q2) q1 (.v _) (w2 _ q3)⟩
        · exact w2.elim
    · exact w1.elim⟩
end
theorem kit_self {K : PySem.W.Frag} {C : Addr} : PySem.W.kitOne K (.ref C) (.ref C) = some true := by
  unfold PySem.W.kitOne
  rw [if_pos (beq_self_eq_true _)]
end Rp

/-! != by an own __eq__, over data. -/
namespace Rp
open PySem PySem.Spec PyProof.Rows L2
section
variable {prog : Program} {w : World} {A : Around} {E : Value → Shared → Prop} {s : Shared} {x l : Addr} {Q : Value → Shared → Prop}
open PySem.W in
theorem ifBound_B {K : Frag} {M : Model} {C : Addr} {ox : Obj} {od : Option Obj} {name : Str} {id : String} {args : List Value} {Q : Option Value → Shared → Prop} (X : K.In s.heap) (I : InstAt s.heap x ox C od) (hs : findIn K (.ref C) name = some (some (.builtin id)))
    (hb : bindSpecial (.builtin id) (.ref x) = pure (.builtin id, [.ref x])) (h : wpAny M A (call (.builtin id) (.ref x :: args)) (fun v => Q (some v)) E s) : wpAny M A (callSpecialIfBound? (.ref x) name args) Q E s := by
  simp only [callSpecialIfBound?, bindSpecialIfBound?]
  refine wpAny_holding (wpAny_bind (wpAny_bind (wpAny_bind (I.type.here ((looks_findIn X hs).here ?_)))))
  refine wpAny_bind (wpAny_askSetting (wpAny_ite ?_))
  have fin : wpAny M A (call (.builtin id) ([.ref x] ++ args) >>= fun v => pure (some v)) Q E s := wpAny_bind (wpAny_mono h (fun v s' h' => wpAny_pure h') fun _ _ h' => h')
  split
  · exact wpAny_bind ((Looks.of_pure hb).here (wpAny_pure (by exact fin)))
  · exact wpAny_tryCatch (wpAny_bind ((Looks.of_pure hb).here (wpAny_pure (by exact fin))))
open PySem.W in
theorem rc_ne {K : Frag} {C f : Addr} {ox : Obj} {od : Option Obj} {b tb : Value} (hu : A.units + 1 < cLine) (X : K.In s.heap) (I : InstAt s.heap x ox C od) (hb : Looks (model prog w) s.heap (typeOf b) tb) (hn : notFirst K C tb = true)
    (hne : findIn K (.ref C) (cmpInfo .NotEq).2.1 = some (some (.builtin "object.__ne__"))) (hs : findIn K (.ref C) (Str.ofString "__eq__") = some (some (.ref f))) (hf : isFn K (.ref f) = true) (hm : mroIn K C (.type "object") = some true)
    (h : wpAny (model prog w) A.in1 (call (.ref f) [.ref x, b]) (fun v s' => ∃ r, v = .bool r ∧ Q (.bool (!r)) s') E s) : wpAny (model prog w) A (richCompare .NotEq (.ref x) b) Q E s := by
  have body : wpAny (model prog w) A (call (.builtin "object.__ne__") [.ref x, b]) (fun v s' => ∃ r, v = .bool r ∧ Q (.bool r) s') E s := by
    refine wpAny_call (codeAny_call_builtin PySem.F.cmp_object.ne.plain PySem.F.cmpEntry_ne (check_slot PySem.F.cmpKind_ne PySem.F.cmpSplit_ne (I.type.andThen (looks_mroIn X hm)) (PySem.F.cmpArgs_ne _ _) ?_))
    show wpAny _ _ (Builtin.«object.__ne__» ⟨[.ref x, b], []⟩) _ _ _
    unfold Builtin.«object.__ne__»
    repeat (first
      | with_reducible refine wpAny_cRoomFor hu ?_
      | (refine wpAny_bind (m := callSpecialIfBound? (.ref x) (Str.ofString "__eq__") [b]) (ifBound_K X I hs hf (wpAny_mono h (fun v s' hv => by
          obtain ⟨r, rfl, hq⟩ := hv
          have hq' : ∃ r', Value.bool (!r) = .bool r' ∧ Q (.bool r') s' := ⟨_, rfl, hq⟩
          repeat (first | exact ⟨_, rfl, hq⟩ | exact hq' | exact wpAny_pure hq' | exact wpAny_truthy_bool hq' | (refine wpAny_bind (m := truthy (.bool _)) (wpAny_truthy_bool ?_)) | wp_step)) fun _ _ e => e)))
      | wp_step)
  have one : wpAny (model prog w) A (tryCompare (.ref x) (cmpInfo .NotEq).2.1 b) (fun r s' => ∃ v, r = some v ∧ Q v s') E s := by
    unfold tryCompare
    refine wpAny_bind (ifBound_B X I hne (PySem.F.cmp_object.ne.bind _) (wpAny_mono body (fun v s' ⟨r, e, q⟩ => ?_) fun _ _ e => e))
    subst e
    exact wpAny_pure ⟨_, rfl, q⟩
  unfold richCompare
  simp only [oneThing_ref]
  refine wpAny_holding (wpAny_bind (wpAny_cRoomFor (Nat.lt_of_succ_lt hu) ?_))
  refine wpAny_bind (I.type.here (wpAny_bind (hb.here ?_)))
  split
  · rename_i q
    have e : subIn K tb (.ref C) = some false := by
      rcases Bool.or_eq_true_iff.mp hn with e | e
      · rw [beq_iff_eq.mp e] at q
        simp at q
      · exact beq_iff_eq.mp e
    refine wpAny_bind ((looks_subIn X e).here ?_)
    simp only [Bool.false_eq_true, if_false]
    refine wpAny_bind (wpAny_mono one (fun r s' z => ?_) fun _ _ e => e)
    obtain ⟨v, rfl, hq⟩ := z
    exact wpAny_pure hq
  · refine wpAny_bind (wpAny_pure ?_)
    simp only [Bool.false_eq_true, if_false]
    refine wpAny_bind (wpAny_mono one (fun r s' z => ?_) fun _ _ e => e)
    obtain ⟨v, rfl, hq⟩ := z
    exact wpAny_pure hq
end
/-- x != y, x an instance with an own == and no own != -/
def rNeO (K : PySem.W.Frag) (C : Addr) (sp : Sp) : R2 := fun x y H Q => ∃ a dx fs t, x = .ref a ∧ H a = some (.ins C dx fs) ∧ TyX K H y t ∧ PySem.W.notFirst K C t = true ∧ sp [.ref a, y] H (fun v H' => ∃ b, v = .bl b ∧ Q (.bl (!b)) H') (fun _ _ _ => False)
section
variable {X : Cx} {C fE : Addr} {fdE : FuncData} {k : Nat} {sp : Sp}
theorem op_neO (Z : EqK X.K C fE) (N : PySem.W.findIn X.K (.ref C) "__ne__" = some (some (.builtin "object.__ne__"))) (cm : PySem.W.mroIn X.K C (.type "object") = some true) (FE : FnOk X.prog X.w X.K X.mg X.base CX0 k fE fdE ["self", "other"] sp) (bE : L2.Binds X.K fdE ["self", "other"] []) (hr : Room (k + 1) X.A) : OpR X (compareOp .NotEq) (rNeO X.K C sp) := by
  intro pins s σ H x y v u Q I rx ry h
  obtain ⟨a, dx, fs, t, rfl, ha, ty, nf, hsp⟩ := h
  cases rx
  show wpAny (model X.prog X.w) X.A (richCompare .NotEq (.ref a) u) (EP X pins σ Q) X.xe s
  obtain ⟨mA, J, _⟩ := ins_get I.hok ha
  obtain ⟨od, J, _⟩ := J.look
  obtain ⟨Pz, KX, pz, _⟩ := kit_of I ry ty
  have un := hr.un
  have e := I.env0
  refine rc_ne (tb := t) (by omega) I.kIn J (KX.ty _ _ I.kIn pz) nf N Z.eq Z.eqf cm (wpAny_call (codeAny_mono (FE.run X.A.in1 X.stack s H ⟨[.ref a, u], []⟩ [.ref a, u] [.ref a, y] _ _ hr.in1 e.in1 (by
    have := bE s [.ref a, u] I.kIn (by rfl)
    simpa using this) (.cons rfl (.cons ry .nil)) hsp) fun r s' hq => ?_))
  cases r with
  | error e => exact (pass0 (X := X)) pins σ H s e s' I hq
  | ok fl =>
    cases fl with
    | ret w =>
      obtain ⟨z, H', I', rz, b, ez, q⟩ := I.after hq
      subst ez
      cases rz
      exact ⟨b, rfl, .bl (!b), H', I', rfl, q⟩
    | next => exact False.elim hq
    | brk => exact False.elim hq
    | cont => exact False.elim hq
end
def hNeO (K : PySem.W.Frag) (C : Addr) (sp : Sph) : R2h := fun d e A Q => match d with
  | .ptr i => ∃ fs t, A[i]? = some (.ins C fs) ∧ TyD K A e t ∧ PySem.W.notFirst K C t = true ∧ Ask sp [.ptr i, e] A fun r A' => ∃ b, r = .v (.bl b) ∧ Q (.v (.bl (!b))) A'
  | _ => False
theorem l_neO {K : PySem.W.Frag} {C : Addr} {sp : Sph} : LR K (rNeO K C (spOf K 2 sp)) (hNeO K C sp) := by
  intro θ H A x y d e Q Qh rd re ra w k
  unfold hNeO at w
  split at w
  · obtain ⟨fs, t, h0, ty, nf, w⟩ := w
    cases rd with
    | ptr hi =>
      obtain ⟨dx, xs, g, _, rf⟩ := ra.ok _ _ _ hi h0
      exact ⟨_, dx, xs, t, rfl, g, ty.ty ra re, nf, rfl, θ, _, A, _, .cons (.ptr hi) (.cons re .nil), ra, w.h, fun θ' H' A' v d e' ra' r q => by
        obtain ⟨b, rfl, q⟩ := q
        cases r
        exact ⟨b, rfl, k _ _ _ _ _ e' ra' (.v _) q⟩⟩
  · exact w.elim
/-! ### one of two ways -/
theorem pe_or {X : Cx} {e : Expr} {t1 t2 : TEh} (h1 : PE X e (lift X.K t1)) (h2 : PE X e (lift X.K t2)) : PE X e (lift X.K (fun σ A Q => t1 σ A Q ∨ t2 σ A Q)) :=
  ⟨fun pins s σ H Q I ⟨θ, σh, A, Qh, rs, ra, w, k⟩ => by
    rcases w with w | w
    · exact h1.run pins s σ H Q I ⟨θ, σh, A, Qh, rs, ra, w, k⟩
    · exact h2.run pins s σ H Q I ⟨θ, σh, A, Qh, rs, ra, w, k⟩⟩
end Rp

/-! A def that hands defs within it out in what it tells. -/
namespace Rp
open PySem PySem.Spec PyProof.Rows L2 NdefX
/-- what is handed out, its own defs with what they hold -/
structure HandsL (N : List Str) (cells : List (Str × Addr)) (fr : List Str) (Q : VK) (σ : L2.St) (v : V) (H : Hp) : Prop where
  h : ∃ xs : List V, (∀ (i : Nat) (y : Str), fr[i]? = some y → ∃ (j : Nat) (x : V), N[j]? = some y ∧ σ[j]? = some (some x) ∧ xs[i]? = some x) ∧
    ∀ h0 tr, Own cells h0 fr xs tr → (∀ b z, tr b = some z → H b = none) → (∀ y ∈ fr, ∃ c, cells.lookup y = some c) → (∀ x y c, cells.lookup x = some c → cells.lookup y = some c → x = y) → Q v (track tr H)
section
variable {P : Program} {w : World} {K : PySem.W.Frag} {mg : Str → Option Value} {base : Heap}
theorem ok_ret {x qual : Str} {st : Stmt} {f : Addr} {fd : FuncData} {N ps fr : List Str} {k : Nat} {sp : Sp} (F : Fun K x qual st f fd) (S : FnScope N ps (defScope st)) (len : ∀ vs H Q E, sp vs H Q E → vs.length = ps.length)
    (hfr : fr.Nodup) (hk : ∀ y ∈ fr, (defScope st).names.lookup y = some .cell)
    (hb : ∀ (cdv : Value) (A : Around) (outer : List Env) (s : Shared) (H : Hp) (vs : List V) (Q : VK) (E : XK), fd.code = cdv → Room k (A.deeper (envOfC qual (defScope st) s.heap.objs.size f cdv)) → sp vs H Q E →
      ∃ t, PSr (cxOf CX0 P w K mg base N qual (defScope st) f cdv A outer s H E).nox (defBody st) t ∧ t (HandsL N (envOfC qual (defScope st) s.heap.objs.size f cdv).cells fr Q) (start N vs) H) : FnOk P w K mg base CX0 (k + 1) f fd ps sp := by
  obtain ⟨oc, od, kV, doc, pm, an, cdv, ct, osl, rfl, lk, hcd⟩ := F.ex
  refine ⟨len, fun A outer s H args us vs Q E room en bi rel want => ?_⟩
  have kept : ∀ b o, base.get? b = some o → s.heap.get? b = some o := fun b o e => (en.bs b o e).1
  have inK : K.In s.heap := en.mod.kin.keeps kept
  refine codeAny_call_function room.depth (inK _ _ lk) rfl S.co S.gen rfl (PySem.W.codeRec_of inK hcd) (bi _ _ _ _ ?_)
  refine wpAny_newFunctionEnv_cells S.kind (fun y hy => ?_) fun env he s1 made => ?_
  · rcases S.par y.1 (List.of_mem_zip (show (y.1, y.2) ∈ ps.zip us from hy)).1 with q | q
    · exact .inl q
    · exact .inr ⟨q, PySem.W.cellsFrom_some _ _ _ (.inl q)⟩
  subst he
  refine ⟨(en.mod.nolimit.keeps kept).keeps made.toInCall.keep, codeAny_func ?_⟩
  obtain ⟨t, body, reads⟩ := hb cdv A outer s H vs Q E rfl (room.deeper _) want
  refine wpAny_mono (body.run [] s1 (start N vs) H _ (Inv.wish (inv_start (E := E) S room.hd en (len _ _ _ _ want) rel made) _) reads) (fun fl s' hs => ?_) fun e s' hs => hs.elim
  obtain ⟨u, v, σ', H', rfl, J, rv, xs, hs, q⟩ := hs
  generalize hcells : (envOfC qual (defScope st) s.heap.objs.size f cdv).cells = cells at q
  have hasC : ∀ y ∈ fr, ∃ c, cells.lookup y = some c := fun y hy => by rw [← hcells]; exact J.ok.has y (.inl (hk y hy))
  have injC : ∀ x y c, cells.lookup x = some c → cells.lookup y = some c → x = y := fun x y c h1 h2 => J.ok.inj x y c (by rw [← hcells] at h1; exact h1) (by rw [← hcells] at h2; exact h2)
  have freeC : ∀ y c, cells.lookup y = some c → H' c = none := fun y c h => J.freeC y c (by rw [← hcells] at h; exact h)
  have newC : ∀ y c, cells.lookup y = some c → s.heap.objs.size ≤ c := fun y c h => J.ok.cab y c rfl (by rw [← hcells] at h; exact h)
  obtain ⟨tr, own⟩ := own_cells (xs := xs) J hfr (fun y hy => hk y hy) hs
  replace own : Own cells s'.heap fr xs tr := by rw [← hcells]; exact own
  have free : ∀ b x, tr b = some x → H' b = none := fun b x h => by
    obtain ⟨⟨y, _, h3⟩, _⟩ := own.of b x h
    exact freeC y b h3
  have same : Same H' (track tr H') := track_same free
  have un := J.base
  refine ⟨v, track tr H', J.os, J.bare, ⟨un.keep, un.slot, fun b o e hb nx => ?_, un.there, fun b xs e => same _ _ (un.tups b xs e), fun b o u e => same _ _ (un.frzs b o u e), fun b ps e => ?_⟩, fun a o e => ?_, rv, q _ tr own free hasC injC⟩
  · have h1 := un.free b o e hb nx
    cases z : tr b with
    | none => rw [track_out z]; exact h1
    | some x =>
      obtain ⟨⟨y, _, h3⟩, _⟩ := own.of b x z
      exact absurd (Heap.lt_size e) (Nat.not_lt.mpr (newC y b h3))
  · obtain ⟨more, m⟩ := un.tbls b ps e
    exact ⟨more, same _ _ m⟩
  · cases z : tr a with
    | some x =>
      rw [track_in z] at e
      cases e
      exact cellO_ok (own.of a x z).2
    | none =>
      rw [track_out z] at e
      exact (J.hok a o e).stay (fun b u _ e => e) (fun b e => same _ _ e) (fun b xs e => same _ _ e)
end
/-! ### data, lowered -/
mutual
inductive LowD (cells : List (Str × Addr)) (frA : List Str) (caps : List D) : D → D → Prop
  | keep {d : D} : LowD cells frA caps d d
  | tup {ds ds' : List D} (t : LowDs cells frA caps ds ds') : LowD cells frA caps (.tup ds) (.tup ds')
  | low {st : Stmt} {name qual : Str} {fr : List Str} {sub : List D} {ks : List Nat} (hf : ∀ y ∈ (C8.fnScope st).names, y.2 = NameKind.free → y.1 ∈ fr) (hn : ∀ y ∈ fr, (y, NameKind.free) ∈ (C8.fnScope st).names) (hk : ks.map (fun k => frA[k]?) = fr.map some) (hs : ks.map (fun k => caps[k]?) = sub.map some) :
      LowD cells frA caps (.lfn st name qual (cloFrom cells (C8.fnScope st).names [])) (.fn st name qual fr sub)
inductive LowDs (cells : List (Str × Addr)) (frA : List Str) (caps : List D) : List D → List D → Prop
  | nil : LowDs cells frA caps [] []
  | cons {d d' : D} {ds ds' : List D} (h : LowD cells frA caps d d') (t : LowDs cells frA caps ds ds') : LowDs cells frA caps (d :: ds) (d' :: ds')
end
inductive LowO (cells : List (Str × Addr)) (frA : List Str) (caps : List D) : O → O → Prop
  | keep {o : O} : LowO cells frA caps o o
  | lst {ds ds' : List D} (t : LowDs cells frA caps ds ds') : LowO cells frA caps (.lst ds) (.lst ds')
section
variable {K : PySem.W.Frag} {θ : List Addr} {H H' : Hp} {cells : List (Str × Addr)} {frA : List Str} {caps : List D} {xs : List V} {h0 : Heap} {tr : Addr → Option (V × Obj)}
mutual
theorem LowD.rd (own : Own cells h0 frA xs tr) (has : ∀ y ∈ frA, ∃ c, cells.lookup y = some c) (inj : ∀ x y c, cells.lookup x = some c → cells.lookup y = some c → x = y) (sm : Same H H') (ht : ∀ b z, tr b = some z → H' b = some (CellO b z)) (rx : RDs K θ H' xs caps) :
    ∀ {d d' : D} {v : V}, LowD cells frA caps d d' → RD K θ H v d → RD K θ H' v d'
  | _, _, _, .keep, h => h.ext (Ext.same (θ := θ) sm)
  | _, _, _, .tup t, .tup h r => .tup (SqT.stab h (Ext.same (θ := θ) sm).stab) (LowDs.rds own has inj sm ht rx t r)
  | _, _, v, .low (st := st) (name := name) (qual := qual) (fr := fr) (ks := ks) hf hn hk hs, h => by
    have hx : RDs K θ H [v] [.lfn st name qual (cloFrom cells (C8.fnScope st).names [])] := .cons h .nil
    have hl : Lows cells frA caps [.lfn st name qual (cloFrom cells (C8.fnScope st).names [])] _ := .low hf hn hk hs .nil
    cases hl.rds own has inj sm ht rx hx with
    | cons h _ => exact h
theorem LowDs.rds (own : Own cells h0 frA xs tr) (has : ∀ y ∈ frA, ∃ c, cells.lookup y = some c) (inj : ∀ x y c, cells.lookup x = some c → cells.lookup y = some c → x = y) (sm : Same H H') (ht : ∀ b z, tr b = some z → H' b = some (CellO b z)) (rx : RDs K θ H' xs caps) :
    ∀ {ds ds' : List D} {vs : List V}, LowDs cells frA caps ds ds' → RDs K θ H vs ds → RDs K θ H' vs ds'
  | _, _, _, .nil, .nil => .nil
  | _, _, _, .cons a t, .cons h r => .cons (LowD.rd own has inj sm ht rx a h) (LowDs.rds own has inj sm ht rx t r)
end
/-- all objects, lowered -/
structure LowA (cells : List (Str × Addr)) (frA : List Str) (caps : List D) (A A' : OH) : Prop where
  len : A'.length = A.length
  at_ : ∀ (i : Nat) (o : O), A[i]? = some o → ∃ o', A'[i]? = some o' ∧ LowO cells frA caps o o'
theorem LowA.refl {A : OH} : LowA cells frA caps A A := ⟨rfl, fun i o h => ⟨o, h, .keep⟩⟩
/-- one object is lowered -/
theorem LowA.set {A A' : OH} (l : LowA cells frA caps A A') {i : Nat} {ds ds' : List D} (h : A[i]? = some (.lst ds)) (t : LowDs cells frA caps ds ds') : LowA cells frA caps A (A'.set i (.lst ds')) :=
  ⟨by rw [List.length_set]; exact l.len, fun j o hj => by
    by_cases e : i = j
    · subst e
      rw [h] at hj
      cases hj
      exact ⟨_, List.getElem?_set_self (by rw [l.len]; exact lt_of_at h), .lst t⟩
    · obtain ⟨o', h1, h2⟩ := l.at_ j o hj
      exact ⟨o', by rw [List.getElem?_set_ne e]; exact h1, h2⟩⟩
theorem LowA.ra {A A' : OH} (own : Own cells h0 frA xs tr) (has : ∀ y ∈ frA, ∃ c, cells.lookup y = some c) (inj : ∀ x y c, cells.lookup x = some c → cells.lookup y = some c → x = y) (sm : Same H H') (ht : ∀ b z, tr b = some z → H' b = some (CellO b z)) (rx : RDs K θ H' xs caps)
    (l : LowA cells frA caps A A') (ra : RA K θ H A) : RA K θ H' A' :=
  ⟨by rw [l.len]; exact ra.len, ra.nd, fun i a o h1 h2 => by
    have hi : i < A.length := by rw [← ra.len]; exact (List.getElem?_eq_some_iff.mp h1).1
    have h3 : A[i]? = some A[i] := List.getElem?_eq_getElem hi
    obtain ⟨o', h4, lo⟩ := l.at_ i _ h3
    rw [h2] at h4
    cases h4
    have r := ra.ok i a _ h1 h3
    generalize A[i] = o1 at *
    cases lo with
    | keep =>
      obtain ⟨u, hu, _⟩ := r.mut
      have := r.stab (t := []) (Ext.same (θ := θ) sm).stab (by rw [hu, sm _ _ hu]) fun dx e => sm _ _ e
      rw [List.append_nil] at this
      exact this
    | lst t =>
      obtain ⟨ys, h, rd⟩ := r
      exact ⟨ys, sm _ _ h, t.rds own has inj sm ht rx rd⟩⟩
end
/-! ### over data -/
structure PsL (X : Cx) (cells : List (Str × Addr)) (N : List Str) (frA : List Str) (body : List Stmt) (t : TSr) : Prop where
  h : ∃ tv, PSr X body tv ∧ ∀ θ σ σh H A Q Qh, RS X.K θ H σ σh → RA X.K θ H A → t Qh σh A → Kt X.K θ H Q Qh → tv (HandsL N cells frA Q) σ H
section
variable {X : Cx} {cells : List (Str × Addr)} {N frA : List Str} {st : Stmt} {rest : List Stmt} {t1 : TSh} {t2 : TSr} {js : List Nat}
theorem psL_cons (h1 : PS X st (liftS X.K t1)) (h2 : PsL X cells N frA rest t2) : PsL X cells N frA (st :: rest) (jSeqR t1 t2) := by
  obtain ⟨tv, hr, hw⟩ := h2.h
  exact ⟨_, psr_cons h1 hr, fun θ σ σh H A Q Qh rs ra w k => ⟨θ, σh, A, _, rs, ra, w, ⟨fun θ' σ' H' σh' A' e rs' ra' q => hw θ' σ' σh' H' A' Q Qh rs' ra' q (k.ext e), fun _ _ _ _ _ _ _ _ z => z.elim, fun _ _ _ _ _ _ _ _ z => z.elim, fun _ _ _ _ _ _ _ _ z => z.elim⟩⟩⟩
def hRetL (cells : List (Str × Addr)) (frA : List Str) (js : List Nat) (te : TEh) : TSr := fun Q σ A => te σ A fun d A1 => ∃ caps : List D, js.map (fun j => σ[j]?) = caps.map (fun d => some (some d)) ∧ ∃ d' A2, LowD cells frA caps d d' ∧ LowA cells frA caps A1 A2 ∧ Q d' A2
theorem psL_ret {e : Expr} {te : TEh} {pos : Pos} (he : PE X e (lift X.K te)) (hcells : X.env.cells = cells) (hXN : X.N = N) (hjs : js.map (fun j => X.N[j]?) = frA.map some) : PsL X cells N frA [.Return (some e) pos] (hRetL cells frA js te) := by
  subst hcells hXN
  refine ⟨_, psr_ret he, fun θ σ σh H A Q Qh rs ra w k => ⟨θ, σh, A, _, rs, ra, w, fun θ1 H1 A1 v d e1 ra1 r1 w1 => ?_⟩⟩
  obtain ⟨caps, hcaps, d', A2, ld, la, q⟩ := w1
  obtain ⟨xs, rx, ex⟩ := rs_caps (rs.ext e1) hcaps
  refine ⟨xs, fun i y hy => ?_, fun h0 tr own none_ has inj => ?_⟩
  · have h1 := congrArg (fun l : List (Option Str) => l[i]?) hjs
    simp only [List.getElem?_map, hy] at h1
    obtain ⟨j, hj, e⟩ := Option.map_eq_some_iff.mp h1
    have h2 := congrArg (fun l : List (Option (Option V)) => l[i]?) ex
    simp only [List.getElem?_map, hj] at h2
    obtain ⟨z, hz, e2⟩ := Option.map_eq_some_iff.mp h2.symm
    exact ⟨j, z, e, e2.symm, hz⟩
  · have sm := track_same none_
    have rx2 : RDs X.K θ1 (track tr H1) xs caps := rx.ext (Ext.same (θ := θ1) sm)
    exact k _ _ _ _ _ (e1.trans (Ext.same (θ := θ1) sm)) (la.ra own has inj sm (fun b z => track_in) rx2 ra1) (ld.rd own has inj sm (fun b z => track_in) rx2 r1) q
end
theorem okRet {P : Program} {w : World} {K : PySem.W.Frag} {mg : Str → Option Value} {base : Heap} {x qual : Str} {st : Stmt} {f : Addr} {fd : FuncData} {N ps fr : List Str} {k : Nat} {sp : Sph} (F : Fun K x qual st f fd) (S : FnScope N ps (defScope st)) (hfr : fr.Nodup) (hk : ∀ y ∈ fr, (defScope st).names.lookup y = some .cell)
    (hb : ∀ (cdv : Value) (A : Around) (outer : List Env) (s : Shared) (H : Hp) (E : XK), fd.code = cdv → Room k (A.deeper (envOfC qual (defScope st) s.heap.objs.size f cdv)) →
      ∃ t, PsL (cxOf CX0 P w K mg base N qual (defScope st) f cdv A outer s H E).nox (envOfC qual (defScope st) s.heap.objs.size f cdv).cells N fr (defBody st) t ∧ ∀ ds A Q, sp ds A Q → t Q (startH N.length ds) A) : FnOk P w K mg base CX0 (k + 1) f fd ps (spOf K ps.length sp) :=
  ok_ret F S (fun vs H Q E h => h.1) hfr hk fun cdv A outer s H vs Q E he room h => by
    obtain ⟨t, b, go⟩ := hb cdv A outer s H E he room
    obtain ⟨tv, hr, hw⟩ := b.h
    obtain ⟨_, θ, ds, A', Qh, r, ra, wq, kq⟩ := h
    exact ⟨tv, hr, hw θ _ _ _ A' Q Qh (.start r) ra (go ds A' Qh wq) kq⟩
end Rp

/-! All that the program's top leaves: the defs, the classes, the names. -/
namespace Rp
open PySem PySem.Spec PyProof.Rows L2
abbrev topS (i : Nat) : Stmt := PySem.Challenge.pw_rateplan_k43_what_is_a_road_of_a_kind.main.body.getD i (.Pass ⟨0, 0, 0, 0⟩)
/-- the built-in names are as they were -/
structure Bi (mg : Str → Option Value) : Prop where
  int : mg "int" = none
  len : mg "len" = none
  range : mg "range" = none
  tuple : mg "tuple" = none
  list : mg "list" = none
  max : mg "max" = none
  min : mg "min" = none
  sum : mg "sum" = none
  isinstance : mg "isinstance" = none
  repr : mg "repr" = none
  str : mg "str" = none
  abs : mg "abs" = none
  enumerate : mg "enumerate" = none
  zip : mg "zip" = none
  bool : mg "bool" = none
  all : mg "all" = none
  any : mg "any" = none
  sorted : mg "sorted" = none
  dict : mg "dict" = none
  set : mg "set" = none
abbrev s_is_whole : Stmt := topS 1
theorem sc_is_whole : FnScope ["thing"] ["thing"] (defScope s_is_whole) :=
  ⟨rfl, rfl, rfl, by decide +kernel, rfl, by decide +kernel, by decide +kernel⟩
abbrev s_is_of_kind : Stmt := topS 3
theorem sc_is_of_kind : FnScope ["kind", "thing", "slow", "fast", "many", "wide", "speed", "window", "at"] ["kind", "thing"] (defScope s_is_of_kind) :=
  ⟨rfl, rfl, rfl, by decide +kernel, rfl, by decide +kernel, by decide +kernel⟩
abbrev s_law_deck : Stmt := topS 5
theorem sc_law_deck : FnScope ["_law_script", "_law_cells", "_law_seed", "_law_cell"] ["_law_script"] (defScope s_law_deck) :=
  ⟨rfl, rfl, rfl, by decide +kernel, rfl, by decide +kernel, by decide +kernel⟩
abbrev s_law_draw : Stmt := topS 6
theorem sc_law_draw : FnScope ["_law_deck_here", "_law_top", "_law_cell", "_law_number"] ["_law_deck_here", "_law_top"] (defScope s_law_draw) :=
  ⟨rfl, rfl, rfl, by decide +kernel, rfl, by decide +kernel, by decide +kernel⟩
abbrev s_law_kind : Stmt := topS 7
theorem sc_law_kind : FnScope ["_law_deck_here", "_law_slow", "_law_wide"] ["_law_deck_here"] (defScope s_law_kind) :=
  ⟨rfl, rfl, rfl, by decide +kernel, rfl, by decide +kernel, by decide +kernel⟩
abbrev s_law_road : Stmt := topS 8
theorem sc_law_road : FnScope ["_law_deck_here", "_law_kind_here", "_law_slow", "_law_fast", "_law_many", "_law_wide", "_law_way", "_law_count", "_law_found", "_law_k", "_law_free", "_law_may", "_law_one", "_law_turn", "_law_pick"] ["_law_deck_here", "_law_kind_here"] (defScope s_law_road) :=
  ⟨rfl, rfl, rfl, by decide +kernel, rfl, by decide +kernel, by decide +kernel⟩
abbrev s_law_whole : Stmt := topS 9
theorem sc_law_whole : FnScope ["_law_thing"] ["_law_thing"] (defScope s_law_whole) :=
  ⟨rfl, rfl, rfl, by decide +kernel, rfl, by decide +kernel, by decide +kernel⟩
abbrev s_law_due : Stmt := topS 10
theorem sc_law_due : FnScope ["_law_kind_here", "_law_thing", "_law_slow", "_law_fast", "_law_many", "_law_wide", "_law_one", "_law_k"] ["_law_kind_here", "_law_thing"] (defScope s_law_due) :=
  ⟨rfl, rfl, rfl, by decide +kernel, rfl, by decide +kernel, by decide +kernel⟩
abbrev s_law_otherwise : Stmt := topS 11
theorem sc_law_otherwise : FnScope ["_law_deck_here", "_law_kind_here", "_law_road_here", "_law_slow", "_law_fast", "_law_many", "_law_wide", "_law_at", "_law_one", "_law_odd", "_law_put", "_law_some"] ["_law_deck_here", "_law_kind_here", "_law_road_here"] (defScope s_law_otherwise) :=
  ⟨rfl, rfl, rfl, by decide +kernel, rfl, by decide +kernel, by decide +kernel⟩
abbrev s_law_right : Stmt := topS 12
theorem sc_law_right : FnScope ["_law_kind_here", "_law_thing", "_law_kept", "_law_turn", "_law_found"] ["_law_kind_here", "_law_thing"] (defScope s_law_right) :=
  ⟨rfl, rfl, rfl, by decide +kernel, rfl, by decide +kernel, by decide +kernel⟩
abbrev s_law : Stmt := topS 13
theorem sc_law : FnScope ["_law_script", "_law_deck_here", "_law_turn", "_law_kind_here", "_law_slow", "_law_fast", "_law_many", "_law_wide", "_law_less", "_law_things", "_law_again", "_law_road_here", "_law_thing"] ["_law_script"] (defScope s_law) :=
  ⟨rfl, rfl, rfl, by decide +kernel, rfl, by decide +kernel, by decide +kernel⟩
structure Wd (K : PySem.W.Frag) (mg : Str → Option Value) where
  B : Bi mg
  f_is_whole : Addr
  d_is_whole : FuncData
  F_is_whole : Fun K "is_whole" "is_whole" s_is_whole f_is_whole d_is_whole
  b_is_whole : L2.Binds K d_is_whole ["thing"] []
  m_is_whole : mg "is_whole" = some (.ref f_is_whole)
  f_is_of_kind : Addr
  d_is_of_kind : FuncData
  F_is_of_kind : Fun K "is_of_kind" "is_of_kind" s_is_of_kind f_is_of_kind d_is_of_kind
  b_is_of_kind : L2.Binds K d_is_of_kind ["kind", "thing"] []
  m_is_of_kind : mg "is_of_kind" = some (.ref f_is_of_kind)
  f_law_deck : Addr
  d_law_deck : FuncData
  F_law_deck : Fun K "_law_deck" "_law_deck" s_law_deck f_law_deck d_law_deck
  b_law_deck : L2.Binds K d_law_deck ["_law_script"] []
  m_law_deck : mg "_law_deck" = some (.ref f_law_deck)
  f_law_draw : Addr
  d_law_draw : FuncData
  F_law_draw : Fun K "_law_draw" "_law_draw" s_law_draw f_law_draw d_law_draw
  b_law_draw : L2.Binds K d_law_draw ["_law_deck_here", "_law_top"] []
  m_law_draw : mg "_law_draw" = some (.ref f_law_draw)
  f_law_kind : Addr
  d_law_kind : FuncData
  F_law_kind : Fun K "_law_kind" "_law_kind" s_law_kind f_law_kind d_law_kind
  b_law_kind : L2.Binds K d_law_kind ["_law_deck_here"] []
  m_law_kind : mg "_law_kind" = some (.ref f_law_kind)
  f_law_road : Addr
  d_law_road : FuncData
  F_law_road : Fun K "_law_road" "_law_road" s_law_road f_law_road d_law_road
  b_law_road : L2.Binds K d_law_road ["_law_deck_here", "_law_kind_here"] []
  m_law_road : mg "_law_road" = some (.ref f_law_road)
  f_law_whole : Addr
  d_law_whole : FuncData
  F_law_whole : Fun K "_law_whole" "_law_whole" s_law_whole f_law_whole d_law_whole
  b_law_whole : L2.Binds K d_law_whole ["_law_thing"] []
  m_law_whole : mg "_law_whole" = some (.ref f_law_whole)
  f_law_due : Addr
  d_law_due : FuncData
  F_law_due : Fun K "_law_due" "_law_due" s_law_due f_law_due d_law_due
  b_law_due : L2.Binds K d_law_due ["_law_kind_here", "_law_thing"] []
  m_law_due : mg "_law_due" = some (.ref f_law_due)
  f_law_otherwise : Addr
  d_law_otherwise : FuncData
  F_law_otherwise : Fun K "_law_otherwise" "_law_otherwise" s_law_otherwise f_law_otherwise d_law_otherwise
  b_law_otherwise : L2.Binds K d_law_otherwise ["_law_deck_here", "_law_kind_here", "_law_road_here"] []
  m_law_otherwise : mg "_law_otherwise" = some (.ref f_law_otherwise)
  f_law_right : Addr
  d_law_right : FuncData
  F_law_right : Fun K "_law_right" "_law_right" s_law_right f_law_right d_law_right
  b_law_right : L2.Binds K d_law_right ["_law_kind_here", "_law_thing"] []
  m_law_right : mg "_law_right" = some (.ref f_law_right)
  f_law : Addr
  d_law : FuncData
  F_law : Fun K "law" "law" s_law f_law d_law
  b_law : L2.Binds K d_law ["_law_script"] []
  m_law : mg "law" = some (.ref f_law)

end Rp

/-! The deck of k43 to k52, k82, k83, k95: a list, how often it was drawn. -/
namespace Rp
open PySem PySem.Spec PyProof.Rows L2
local macro_rules | `(tactic| walk_at "vd") => `(tactic| rfl)
local macro_rules | `(tactic| walk_at "w") => `(tactic| (conv => whnf))
local macro_rules | `(tactic| walk_at "ni") => `(tactic| first | exact ni0 | (refine ni2 ?_ ?_ <;> omega) | (refine ni1 ?_ <;> omega) | (refine ni3 ?_ ?_ ?_ <;> omega))
local macro_rules | `(tactic| walk_at "hp") => `(tactic| first | assumption | exact New.get (by assumption) | exact Put.get (by assumption) | (refine New.old (by assumption) ?_; walk_at "hp") | (refine Kq.old0 (by assumption) ?_; walk_at "hp") | (refine Kq.old (by assumption) (by walk_at "ni") ?_; walk_at "hp") | (refine Put.old (by assumption) (by omega) ?_; walk_at "hp"))
local macro_rules | `(tactic| walk_at "kq") => `(tactic| first | exact Kq.refl _ _ | assumption | (refine Kq.new ?_ (by assumption); walk_at "kq") | (refine Kq.putO ?_ (by assumption) (by omega); walk_at "kq") | (refine Kq.putM ?_ (by assumption) (by simp); walk_at "kq") | (refine Kq.trans0 ?_ (by assumption); walk_at "kq") | (refine Kq.trans ?_ (by assumption); walk_at "kq"))
local macro_rules | `(tactic| walk_at "nw") => `(tactic| (intro k A' n; have e := New.eq n; have l := New.len n))
local macro_rules | `(tactic| walk_at "pt") => `(tactic| (intro A' p; have l := Put.len p))
local macro_rules | `(tactic| walk_at "ix") => `(tactic| first | rfl | assumption | exact at_zero)
local macro_rules | `(tactic| walk_at "ar") => `(tactic| first | omega | exact True.intro | assumption | decide | exact Or.inl ⟨by omega, by omega⟩ | exact Or.inr ⟨by omega, by omega⟩ | exact ⟨by omega, by omega⟩ | exact ⟨by decide, by decide, by decide⟩ | (simp only [List.length_map, List.length_append, List.length_cons, List.length_nil, List.length_range, List.length_replicate, List.length_zip, List.length_drop, List.length_take]; omega) | (rw [sizeLine_eq]; first | decide | (simp; done) | (simp; omega)) | (simp; done))
local macro_rules | `(tactic| walk_at "br") => `(tactic| first | (with_reducible refine Br.t ?_) | (with_reducible refine Br.f ?_) | ((with_reducible refine Br.nf ?_ ?_); (first | with_reducible rfl | assumption | omega | exact (rfl : (_ : Int) = _))) | ((with_reducible refine Br.dt ?_ ?_); (first | assumption | omega | exact (rfl : (_ : Int) = _))) | ((with_reducible refine Br.df ?_ ?_); (first | assumption | omega)) | ((with_reducible refine Br.nt ?_ ?_); (first | assumption | omega)) | ((with_reducible refine Br.yes_of ?_ ?_); (first | with_reducible rfl | assumption | decide | (simp only [List.isEmpty_cons, List.isEmpty_nil, Bool.not_true, Bool.not_false]; done))) | ((with_reducible refine Br.no_of ?_ ?_); (first | with_reducible rfl | assumption | decide | (simp only [List.isEmpty_cons, List.isEmpty_nil, Bool.not_true, Bool.not_false]; done))))
local macro_rules | `(tactic| walk_at "ask") => `(tactic| fail)
local macro_rules | `(tactic| walk_at "ty") => `(tactic| first | exact TyD.int _ | exact TyD.bl _ | exact TyD.non | exact TyD.str _ | exact TyD.tup _ | (apply TyD.lst; walk_at "hp") | (apply TyD.dK; walk_at "hp") | (apply tyd_ins; assumption; assumption; walk_at "hp"))
local macro_rules | `(tactic| walk_at "isi") => `(tactic| (apply Exists.intro; apply Exists.intro; apply Exists.intro; apply And.intro; (first | exact ClsV.ty _ | exact ClsV.own _); apply And.intro; (walk_at "ty"); apply And.intro; (first | exact rfl | exact kit_self)))
local macro_rules | `(tactic| walk_at "ex") => `(tactic| first | (apply Exists.intro; apply Exists.intro; apply Exists.intro; apply And.intro; (walk_at "hp"); apply And.intro; (exact rfl); apply And.intro; (walk_at "vd")) | (apply Exists.intro; apply Exists.intro; apply And.intro; (walk_at "hp"); apply And.intro; (walk_at "hp"); apply And.intro; (first | walk_at "ar" | (simp only [sizeLine_eq, List.length_cons, List.length_nil, List.length_map, List.length_append]; omega))) | (apply Exists.intro; apply Exists.intro; apply And.intro; (walk_at "hp"); apply And.intro; (exact rfl)) | (apply Exists.intro; apply Exists.intro; apply And.intro; (walk_at "hp")) | (apply Exists.intro; apply And.intro; (walk_at "hp"); apply And.intro; (walk_at "ar")) | (apply Exists.intro; apply And.intro; (walk_at "hp"); apply And.intro; (exact rfl)) | (apply Exists.intro; apply And.intro; (walk_at "hp")) | (apply Exists.intro; apply And.intro; (walk_at "ix")))
local macro_rules | `(tactic| walk_at "an") => `(tactic| first | (apply And.intro; (exact Exists.intro _ (by walk_at "hp"))) | (apply And.intro; (walk_at "ar")))
local macro_rules | `(tactic| walk_at "dp") => `(tactic| first | exact DP.bl _ | exact DP.int _ | exact DP.non | exact DP.str _ | (apply DP.tup; walk_at "dps") | (apply DP.lst; (walk_at "hp"); (walk_at "dps")))
local macro_rules | `(tactic| walk_at "dps") => `(tactic| first | exact DPs.nil | (apply DPs.cons; (walk_at "dp"); (walk_at "dps")) | exact dps_ints | exact dps_bools)
local macro_rules | `(tactic| walk_at "sw") => `(tactic| first | exact Sw.bl0 | (apply Sw.int0; exact ⟨by omega, by omega⟩) | exact Sw.non0 | (apply Sws.tup; walk_at "sws") | (apply Sws.lst; walk_at "sws") | (apply Sw.str0; decide +kernel))
local macro_rules | `(tactic| walk_at "sws") => `(tactic| first | exact Sws.nil0 | (apply Sws.cons; (walk_at "sw"); (walk_at "sws")) | (apply Sws.ints; assumption) | exact Sws.bools)
local macro_rules | `(tactic| walk_at "shw") => `(tactic| exact Sw.shw (n := 12) (by walk_at "sw") (by decide) (by first | decide | omega))
local macro_rules | `(tactic| walk_at "shp") => `(tactic| exact Sw.shaped (n := 12) (by walk_at "sw") (by decide))
local macro_rules | `(tactic| walk_at "rp") => `(tactic| first | (apply Exists.intro; apply And.intro; (walk_at "dp"); apply And.intro; (walk_at "shw")) | (apply Exists.intro; apply And.intro; (apply Exists.intro; apply Exists.intro; apply And.intro; (walk_at "dp"); apply And.intro; (walk_at "dp"); apply And.intro; (walk_at "shp"); apply And.intro; (walk_at "shp"); (exact rfl))))
local macro_rules | `(tactic| walk_at "st") => `(tactic| ((conv => whnf); first | walk_at "br" | ((with_reducible refine IfQ.go ?_); (conv => whnf); walk_at "br") | walk_at "nw" | walk_at "pt" | ((with_reducible show Ask _ _ _ _); walk_at "ask") | ((with_reducible show Exists _); first | walk_at "ex" | walk_at "isi" | walk_at "rp") | ((with_reducible show And _ _); walk_at "an") | ((with_reducible show Or _ _); apply Or.inl; apply Exists.intro; apply And.intro; (walk_at "hp"))))
local macro_rules | `(tactic| walk_at "s0") => `(tactic| try ((first | dsimp only [startH] | dsimp only [startHN]); dsimp only [sl_lenC, sl_lenN, sl_mapC, sl_mapN, Nat.reduceAdd, Nat.reduceSub, sl_repS, sl_rep0, sl_appC, sl_appN]))
local macro_rules | `(tactic| walk_at "sn") => `(tactic| try dsimp only [sl_set0, sl_setS])
local macro_rules | `(tactic| walk_at "go") => `(tactic| (walk_at "s0"; walk_at "sn"; (repeat walk_at "st"); (try (conv => whnf))))
local macro_rules | `(tactic| walk_at "lv") => `(tactic| first | exact True.intro | (show _[_]? = some _; walk_at "hp"))
local macro_rules | `(tactic| walk_at "rg") => `(tactic| (refine gI_all ?_ (by first | exact (i01 _).1 | omega) (by first | exact (i01 _).2 | (simp only [List.length_cons, List.length_nil]; omega)); intro x hx; simp only [List.mem_cons, List.not_mem_nil, or_false] at hx; omega))
local macro_rules | `(tactic| walk_at "sq") => `(tactic| (refine Seq.eq ?_; (try dsimp only [sl_set0, sl_setS]); repeat (first | (with_reducible exact Seq.nil) | (with_reducible refine Seq.cons (by rfl) ?_) | exact Seq.nil | (refine Seq.cons (by rfl) ?_))))
/-- the deck at k, its cells at c, drawn n times at most -/
structure DeckW (A : OH) (k c : Nat) (n : Int) : Prop where
  deck : ∃ s m, A[k]? = some (.lst [.ptr c, .v (.int s), .v (.int m)]) ∧ 0 ≤ m ∧ m ≤ n
  cells : ∃ cs, A[c]? = some (.lst (dI cs)) ∧ cs.length ≤ 63
section
variable {A A' : OH} {k c i : Nat} {n n' : Int} {o : O}
theorem DeckW.ne (d : DeckW A k c n) : k ≠ c := fun e => by
  obtain ⟨s, m, h, _⟩ := d.deck
  obtain ⟨cs, h', _⟩ := d.cells
  subst e
  rw [h] at h'
  injection h' with h'
  injection h' with h'
  cases cs with
  | nil => cases h'
  | cons a cs => injection h' with h1 h2; cases h1
theorem DeckW.lt1 (d : DeckW A k c n) : k < A.length := by obtain ⟨s, m, h, _⟩ := d.deck; exact lt_of_at h
theorem DeckW.lt2 (d : DeckW A k c n) : c < A.length := by obtain ⟨s, h, _⟩ := d.cells; exact lt_of_at h
theorem DeckW.mono (d : DeckW A k c n) (h : n ≤ n') : DeckW A k c n' := ⟨let ⟨s, m, e, h0, h1⟩ := d.deck; ⟨s, m, e, h0, Int.le_trans h1 h⟩, d.cells⟩
theorem DeckW.new' (n' : New A i o A') (d : DeckW A k c n) : DeckW A' k c n := ⟨let ⟨s, m, h, r⟩ := d.deck; ⟨s, m, n'.old h, r⟩, let ⟨cs, h, l⟩ := d.cells; ⟨cs, n'.old h, l⟩⟩
theorem DeckW.kq' (q : Kq [] A A') (d : DeckW A k c n) : DeckW A' k c n := ⟨let ⟨s, m, h, r⟩ := d.deck; ⟨s, m, q.old0 h, r⟩, let ⟨cs, h, l⟩ := d.cells; ⟨cs, q.old0 h, l⟩⟩
theorem DeckW.put' (p : Put A i o A') (d : DeckW A k c n) (h1 : k ≠ i) (h2 : c ≠ i) : DeckW A' k c n := ⟨let ⟨s, m, h, r⟩ := d.deck; ⟨s, m, p.old h1 h, r⟩, let ⟨cs, h, l⟩ := d.cells; ⟨cs, p.old h2 h, l⟩⟩
theorem Kq.old_insW {x : Nat} {C : Addr} {fs : List (Str × D)} (q : Kq [k, c] A A') (d : DeckW A k c n) (h : A[x]? = some (.ins C fs)) : A'[x]? = some (.ins C fs) := by
  obtain ⟨s, m, h1, _⟩ := d.deck
  obtain ⟨cs, h2, _⟩ := d.cells
  refine q.old (ni2 (fun e => ?_) fun e => ?_) h
  · subst e; rw [h] at h1; cases h1
  · subst e; rw [h] at h2; cases h2
theorem Kq.old_tabW {x : Nat} {P : Addr} {nm : Nat → Nat → Str} (q : Kq [k, c] A A') (d : DeckW A k c n) (h : A[x]? = some (.tab P nm)) : A'[x]? = some (.tab P nm) := by
  obtain ⟨s, m, h1, _⟩ := d.deck
  obtain ⟨cs, h2, _⟩ := d.cells
  refine q.old (ni2 (fun e => ?_) fun e => ?_) h
  · subst e; rw [h] at h1; cases h1
  · subst e; rw [h] at h2; cases h2
end
def spDeck : Sph := fun ds A Q => ∃ ns : List Int, ds = [.scr ns] ∧ ns.length ≤ 63 ∧ ∀ k c A', DeckW A' k c 0 → Kq [] A A' → A.length ≤ k → A.length ≤ c → Q (.ptr k) A'
def spDraw : Sph := fun ds A Q => ∃ k c w n, ds = [.ptr k, .v (.int w)] ∧ DeckW A k c n ∧ 1 ≤ w ∧ w < 1000000000 ∧ n < 1000000000 ∧ ∀ d A', 0 ≤ d → d < w → DeckW A' k c (n + 1) → Kq [k, c] A A' → Q (.v (.int d)) A'
theorem ask_draw {k c : Nat} {w n : Int} {A : OH} {Q : KH} (D : DeckW A k c n) (h1 : 1 ≤ w) (h2 : w < 1000000000) (h3 : n < 1000000000) (h : ∀ d A', 0 ≤ d → d < w → DeckW A' k c (n + 1) → Kq [k, c] A A' → Q (.v (.int d)) A') : Ask spDraw [.ptr k, .v (.int w)] A Q :=
  ⟨k, c, w, n, rfl, D, h1, h2, h3, h⟩
local macro_rules | `(tactic| walk_at "pt") => `(tactic| (intro A' p; have l := Put.len p; try rw [pd_at] at p))
local macro_rules | `(tactic| walk_at "vd") => `(tactic| first | exact vd_cells | exact vd_seed | exact vd_at)
local macro_rules | `(tactic| walk_at "dk0") => `(tactic| first | assumption | exact DeckW.new' (by assumption) (by walk_at "dk0") | exact DeckW.kq' (by assumption) (by walk_at "dk0") | exact DeckW.put' (by assumption) (by walk_at "dk0") (by omega) (by omega))
local macro_rules | `(tactic| walk_at "dk") => `(tactic| (refine DeckW.mono (by walk_at "dk0") ?_; omega))
local macro_rules | `(tactic| walk_at "ask") => `(tactic| (refine ask_draw (by walk_at "dk0") (by omega) (by omega) (by omega) ?_; intro d A' d0 d1 D q; have l := Kq.len q))
local macro_rules | `(tactic| walk_at "hp") => `(tactic| first | assumption | exact New.get (by assumption) | exact Put.get (by assumption) | (refine New.old (by assumption) ?_; walk_at "hp") | (refine Kq.old0 (by assumption) ?_; walk_at "hp") | (refine Kq.old_insW (by assumption) (by walk_at "dk0") ?_; walk_at "hp") | (refine Kq.old_tabW (by assumption) (by walk_at "dk0") ?_; walk_at "hp") | (refine Kq.old (by assumption) (by walk_at "ni") ?_; walk_at "hp") | (refine Put.old (by assumption) (by omega) ?_; walk_at "hp"))
theorem ok_law_deck {P : Program} {w : World} {K : PySem.W.Frag} {mg : Str → Option Value} {base : Heap} (W : Wd K mg) : FnOk P w K mg base CX0 5 W.f_law_deck W.d_law_deck ["_law_script"] (spOf K 1 (spDeck)) := by
  refine okH (k := 4) W.F_law_deck sc_law_deck fun cdv Ao outer s H E hr => have hu := hr.units; ⟨_, pssh_cons (psh_set (i := 1) sc_law_deck.nd rfl (Or.inl rfl) (ph_callTy l_list call_list_of (by rfl) W.B.list boot_list (pah_cons (ph_slice (ph_var (pv 0)) poh_none (poh_some (ph_c pe_int))) pah_nil)))
    (pssh_cons (psh_set (i := 2) sc_law_deck.nd rfl (Or.inl rfl) (ph_c pe_int))
    (pssh_cons (psj_for lg_name PassesOwn.never rfl (pih_seq (ph_var (pv 1))) (pg_name (i := 3) sc_law_deck.nd rfl (Or.inl rfl)) (pssh_one (psh_set (i := 2) sc_law_deck.nd rfl (Or.inl rfl) (ph_op l_mod op_mod (ph_op l_add op_addA (ph_op l_add op_addA (ph_op l_mul op_mulA (ph_var (pv 2)) (ph_c pe_int)) (ph_var (pv 3))) (ph_c pe_int)) (ph_c pe_int)))))
    (pssh_one (psh_ret (ph_lst (pah_cons (ph_step (ph_var (pv 1)) (poh_some (ph_neg (ph_c pe_int)))) (pah_cons (ph_var (pv 2)) (pah_cons (ph_c pe_int) pah_nil)))))))), ?_⟩
  rintro ds A Q ⟨ns, rfl, hn, q⟩
  walk_at "go"
  rename_i j0 A0 n0 e0 l0 j A1 n1 e1 l1
  have h1 := n1.get
  have q1 : Kq [] A A1 := by walk_at "kq"
  refine ForQ.s2 2 3 (fun i a b A' => (∃ sd, a = some (.v (.int sd))) ∧ A' = A1) ⟨_, _, rfl, ⟨_, rfl⟩, rfl⟩ (fun i a b A' _ h => by rw [h.2]; exact h1) ?_ ?_
  · rintro i d a b A' hi hd ⟨⟨sd, rfl⟩, rfl⟩
    obtain ⟨z, hz, rfl⟩ := dI_at hd
    walk_at "go"
    exact .mk ⟨_, _, by walk_at "sq", ⟨_, rfl⟩, rfl⟩
  rintro a b A' ⟨⟨sd, rfl⟩, rfl⟩
  walk_at "go"
  rename_i k2 A2 n2 e2 l2 k3 A3 n3 e3 l3
  refine q k3 k2 A3 ⟨⟨_, _, n3.get, Int.le_refl _, Int.le_refl _⟩, ⟨pickG (cutI ns none (some 63)) (-1), ?_, ?_⟩⟩ (by walk_at "kq") (by omega) (by omega)
  · rw [← pickG_dI]; exact n3.old n2.get
  · exact Nat.le_trans (pickG_len _ _) (Nat.le_trans (cutI_len _ _ _) hn)
theorem ok_law_draw {P : Program} {w : World} {K : PySem.W.Frag} {mg : Str → Option Value} {base : Heap} (W : Wd K mg) : FnOk P w K mg base CX0 5 W.f_law_draw W.d_law_draw ["_law_deck_here", "_law_top"] (spOf K 2 (spDraw)) := by
  refine okH (k := 4) W.F_law_draw sc_law_draw fun cdv Ao outer s H E hr => have hu := hr.units; ⟨_, pssh_cons (psh_asg lg_sub (ph_op l_add op_addA (ph_ix l_ix ix_seq (ph_var (pv 0)) (ph_c pe_int) (fun _ _ => rfl)) (ph_c pe_int)) (pgh_sub (ph_var (pv 0)) (ph_c pe_int)))
    (pssh_cons (psh_set (i := 2) sc_law_draw.nd rfl (Or.inl rfl) (ph_ix l_ix ix_seq (ph_var (pv 0)) (ph_c pe_int) (fun _ _ => rfl)))
    (pssh_cons (psj_if (pth_cmp l_ne (op_neA hu) (ph_ix l_ix ix_seq (ph_var (pv 0)) (ph_c pe_int) (fun _ _ => rfl)) (ph_lst (pah_nil)) (nomark _)) (pssh_cons (psh_set (i := 2) sc_law_draw.nd rfl (Or.inl rfl) (ph_pop (ph_ix l_ix ix_seq (ph_var (pv 0)) (ph_c pe_int) (fun _ _ => rfl))))
      (pssh_one (psh_if (pth_cmp l_ge op_ge (ph_var (pv 2)) (ph_op l_pow op_pow (ph_c pe_int) (ph_c pe_int)) (nomark _)) (pssh_cons (psh_expr (ph_app (ph_ix l_ix ix_seq (ph_var (pv 0)) (ph_c pe_int) (fun _ _ => rfl)) (pah_cons (ph_op l_div op_fdiv (ph_var (pv 2)) (ph_var (pv 1))) pah_nil)))
        (pssh_one (psh_ret (ph_op l_mod op_mod (ph_var (pv 2)) (ph_var (pv 1)))))) (pssh_nil)))) (pssh_nil))
    (pssh_cons (psh_set (i := 3) sc_law_draw.nd rfl (Or.inl rfl) (ph_op l_add op_addA (ph_op l_add op_addA (ph_op l_mod op_mod (ph_var (pv 2)) (ph_c pe_int)) (ph_op l_mul op_mulA (ph_op l_mul op_mulA (ph_c pe_int) (ph_ix l_ix ix_seq (ph_var (pv 0)) (ph_c pe_int) (fun _ _ => rfl))) (ph_ix l_ix ix_seq (ph_var (pv 0)) (ph_c pe_int) (fun _ _ => rfl)))) (ph_c pe_int)))
    (pssh_cons (psh_set (i := 3) sc_law_draw.nd rfl (Or.inl rfl) (ph_op l_mod op_mod (ph_op l_mul op_mulA (ph_var (pv 3)) (ph_c pe_int)) (ph_c pe_int)))
    (pssh_cons (psh_set (i := 3) sc_law_draw.nd rfl (Or.inl rfl) (ph_op l_mod op_mod (ph_op l_add op_addA (ph_op l_add op_addA (ph_op l_mul op_mulA (ph_var (pv 3)) (ph_var (pv 3))) (ph_op l_mul op_mulA (ph_c pe_int) (ph_var (pv 3)))) (ph_ix l_ix ix_seq (ph_var (pv 0)) (ph_c pe_int) (fun _ _ => rfl))) (ph_c pe_int)))
    (pssh_one (psh_ret (ph_op l_mod op_mod (ph_op l_div op_fdiv (ph_var (pv 3)) (ph_c pe_int)) (ph_var (pv 1)))))))))), ?_⟩
  rintro ds A Q ⟨k, c, w, n, rfl, D, hw, hw2, hn, q⟩
  have ne := D.ne
  have l1 := D.lt1
  have l2 := D.lt2
  obtain ⟨⟨sd, m, hk, hm0, hm⟩, cs, hc, hl⟩ := D
  walk_at "go"
  refine .go ?_
  walk_at "go"
  refine ⟨_, EqD.ints (ms := []) (by walk_at "hp") (by walk_at "hp"), ?_⟩
  walk_at "w"
  refine .n (fun h => ?_) (fun h => ?_)
  · have e : cs = cs.dropLast ++ [cs.getLast h] := (List.dropLast_concat_getLast h).symm
    generalize cs.dropLast = ini at e
    generalize cs.getLast h = z at e
    subst e
    rw [List.length_append, List.length_singleton] at hl
    rw [dI_app] at hc
    walk_at "go"
    refine .d (fun h => ?_) (fun h => ?_)
    · walk_at "go"
      refine q _ _ (Int.emod_nonneg _ (by omega)) (Int.emod_lt_of_pos _ (by omega)) ⟨⟨_, _, by walk_at "hp", by omega, by omega⟩, ini ++ [z / w], ?_, by rw [List.length_append]; exact hl⟩ (by walk_at "kq")
      rw [dI_app]
      walk_at "hp"
    · walk_at "go"
      refine q _ _ (Int.emod_nonneg _ (by omega)) (Int.emod_lt_of_pos _ (by omega)) ⟨⟨_, _, by walk_at "hp", by omega, by omega⟩, ini, by walk_at "hp", by omega⟩ (by walk_at "kq")
  · walk_at "go"
    exact q _ _ (Int.emod_nonneg _ (by omega)) (Int.emod_lt_of_pos _ (by omega)) ⟨⟨_, _, by walk_at "hp", by omega, by omega⟩, cs, by walk_at "hp", hl⟩ (by walk_at "kq")
end Rp

/-! k43, pure: the windows that end at a beat and those that begin at one. -/
namespace Rp
def cntS (s : Int) (L : List Int) : Nat := (L.filter fun x => decide (x = s)).length
theorem cntS_sub {s : Int} {a b : List Int} (h : a.Sublist b) : cntS s a ≤ cntS s b := (h.filter _).length_le
theorem cntS_app (s : Int) (a b : List Int) : cntS s (a ++ b) = cntS s a + cntS s b := by
  unfold cntS
  rw [List.filter_append, List.length_append]
theorem cntS_one (s x : Int) : cntS s [x] = if x = s then 1 else 0 := by
  unfold cntS
  by_cases h : x = s
  · rw [if_pos h, List.filter_cons_of_pos (by simpa using h)]; rfl
  · rw [if_neg h, List.filter_cons_of_neg (by simpa using h)]; rfl
/-- what the window holds behind i beats -/
def winS (s : Int) (w : Nat) (L : List Int) (i : Nat) : Nat := cntS s ((L.take i).drop (i - w))
theorem winS_zero (s : Int) (w : Nat) (L : List Int) : winS s w L 0 = 0 := by unfold winS; simp [cntS]
theorem winS_le (s : Int) (w : Nat) (L : List Int) (i : Nat) : winS s w L i ≤ i := by
  unfold winS cntS
  refine Nat.le_trans (List.length_filter_le _ _) ?_
  rw [List.length_drop, List.length_take]
  omega
theorem winS_succ {s : Int} {w : Nat} {L : List Int} {i : Nat} {x : Int} (hw : 1 ≤ w) (hx : L[i]? = some x) :
    winS s w L (i + 1) + (if w ≤ i ∧ L[i - w]? = some s then 1 else 0) = winS s w L i + (if x = s then 1 else 0) := by
  obtain ⟨hi, hx'⟩ := List.getElem?_eq_some_iff.mp hx
  have et : L.take (i + 1) = L.take i ++ [x] := by rw [List.take_add_one, hx]; rfl
  have lt : (L.take i).length = i := by rw [List.length_take]; omega
  unfold winS
  rw [et, List.drop_append_of_le_length (by omega), cntS_app, cntS_one]
  generalize (if x = s then 1 else 0 : Nat) = ex
  by_cases c : w ≤ i
  · have e1 : i + 1 - w = (i - w) + 1 := by omega
    have hj : i - w < (L.take i).length := by omega
    have ed : (L.take i).drop (i - w) = (L.take i)[i - w] :: (L.take i).drop (i - w + 1) := List.drop_eq_getElem_cons hj
    have eg : (L.take i)[i - w] = L[i - w]'(by omega) := List.getElem_take
    have eo : L[i - w]? = some (L[i - w]'(by omega)) := List.getElem?_eq_getElem _
    rw [e1, ed, show ((L.take i)[i - w] :: (L.take i).drop (i - w + 1)) = [(L.take i)[i - w]] ++ (L.take i).drop (i - w + 1) from rfl, cntS_app, cntS_one, eg, eo]
    by_cases c2 : L[i - w]'(by omega) = s
    · rw [if_pos (show w ≤ i ∧ some (L[i - w]'(by omega)) = some s from ⟨c, by rw [c2]⟩), if_pos c2]; omega
    · rw [if_neg (fun z : w ≤ i ∧ some (L[i - w]'(by omega)) = some s => c2 (Option.some.inj z.2)), if_neg c2]; omega
  · have e1 : i + 1 - w = 0 := by omega
    have e2 : i - w = 0 := by omega
    rw [if_neg (fun z => c z.1), e1, e2]
    omega
/-- a road of the kind -/
def ofK (s m : Int) (w : Nat) (L : List Int) : Prop := ∀ i, i < L.length → (winS s w L (i + 1) : Int) ≤ m
def ofK' (s m : Int) (w : Nat) (L : List Int) : Prop := ∀ k, k < L.length → (cntS s ((L.drop k).take w) : Int) ≤ m
theorem ofK_iff {s m : Int} {w : Nat} {L : List Int} (hw : 1 ≤ w) : ofK s m w L ↔ ofK' s m w L := by
  constructor
  · intro h k hk
    by_cases c : k + w ≤ L.length
    · have h1 := h (k + w - 1) (by omega)
      unfold winS at h1
      rw [show k + w - 1 + 1 = k + w by omega, show k + w - w = k by omega, List.drop_take, show k + w - k = w by omega] at h1
      exact h1
    · have h1 := h (L.length - 1) (by omega)
      unfold winS at h1
      rw [show L.length - 1 + 1 = L.length by omega, List.take_length] at h1
      have sub : ((L.drop k).take w).Sublist (L.drop (L.length - w)) := by
        refine (List.take_sublist _ _).trans ?_
        have e : L.drop k = (L.drop (L.length - w)).drop (k - (L.length - w)) := by rw [List.drop_drop]; congr 1; omega
        rw [e]
        exact List.drop_sublist _ _
      have := cntS_sub (s := s) sub
      omega
  · intro h i hi
    unfold winS
    by_cases c : w ≤ i + 1
    · have h1 := h (i + 1 - w) (by omega)
      rw [List.drop_take, show i + 1 - (i + 1 - w) = w by omega]
      exact h1
    · have h1 := h 0 (by omega)
      rw [List.drop_zero] at h1
      rw [show i + 1 - w = 0 by omega, List.drop_zero]
      have sub : (L.take (i + 1)).Sublist (L.take w) := by
        have e : L.take (i + 1) = (L.take w).take (i + 1) := by rw [List.take_take]; congr 1; omega
        rw [e]
        exact List.take_sublist _ _
      have := cntS_sub (s := s) sub
      omega
end Rp

/-! isinstance of a def. -/
namespace Rp
open PySem PySem.Spec PyProof.Rows L2 NdefX
local macro_rules | `(tactic| walk_at "ws") => `(tactic| repeat (any_goals (first | assumption | wp_step)))
theorem fn_slot_ga : Slot "function" "__getattribute__" "object.__getattribute__" := by
  refine .of (owner := "object") (n := "__getattribute__") ?_ (by decide +kernel) (by decide +kernel) (by decide +kernel) (by first | exact .inl (by decide +kernel) | exact .inr (by decide +kernel)) ?_
  · rw [typeLookup_type, builtinLookup_eq_fast]; kernel_rfl
  · rw [isSubtype_type]; kernel_rfl
theorem fn_args_ga (x y : Value) : argsOk "object.__getattribute__" ⟨[x, y], []⟩ := by
  unfold argsOk
  kernel_rfl
theorem fn_entry_ga : entryFor table "object.__getattribute__" = some Builtin.«object.__getattribute__» := entryFor_of_tree (by kernel_rfl)
theorem fn_lk_class : typeLookup (.type "function") "__class__" = pure (some (.builtin "object.__class__")) := by
  rw [typeLookup_type, builtinLookup_eq_fast]
  kernel_rfl
theorem fn_sub_owner : isSubtype (.type "function") (.type (".".intercalate ("object.__class__".cutAt '.').dropLast)) = pure true := by
  rw [F.owner_object_class, isSubtype_type]
  kernel_rfl
section
variable {pr : Program} {w : World} {A : Around} {E : Value → Shared → Prop} {h : Heap} {gs : Array GenState} {dr : Drawn} {tk : Nat} {os : OsState} {a : Addr} {o : Obj}
theorem fn_get_class {R : Result → Shared → Prop} (hx : h.get? a = some o) (hc : o.cls = .type "function") (hq : R (.ok (.ret (.type "function"))) ⟨h, gs, dr, tk, os⟩) :
    codeAny (model pr w) A (.call (.builtin "getset_descriptor.__get__") ⟨[.builtin "object.__class__", .ref a, .type "function"], []⟩) R ⟨h, gs, dr, tk, os⟩ := by
  have tx : Shared.TypeIs ⟨h, gs, dr, tk, os⟩ (.ref a) "function" := ⟨_, hx, hc⟩
  have tc : Shared.TypeIs ⟨h, gs, dr, tk, os⟩ (.builtin "object.__class__") "getset_descriptor" := F.typeOf_object_class
  have sb := fn_sub_owner
  refine codeAny_call_builtin F.slot_gs_get.plain F.entry_gs_get (F.slot_gs_get.check _ _ _ _ _ _ _ _ tc (F.args_gs_get _ _ _) ?_)
  walk_at "ws"
  refine ⟨Code.quiet_builtin _ (by decide +kernel), codeAny_builtin F.entry_object_class ?_⟩
  walk_at "ws"
theorem fn_entry_class {u : Tok} {Q : Fin → Shared → Prop} (hx : h.get? a = some o) (hc : o.cls = .type "function") (hq : Q (.done (.ret (.type "function"))) ⟨h, gs, dr, tk, os⟩) :
    wpAny (model pr w) A (Builtin.«object.__getattribute__» ⟨[.ref a, .str "__class__" u], []⟩) Q E ⟨h, gs, dr, tk, os⟩ := by
  have tx : Shared.TypeIs ⟨h, gs, dr, tk, os⟩ (.ref a) "function" := ⟨_, hx, hc⟩
  have tc : Shared.TypeIs ⟨h, gs, dr, tk, os⟩ (.builtin "object.__class__") "getset_descriptor" := F.typeOf_object_class
  have x1 := fn_lk_class
  have x2 := F.typeOf_object_class
  have x3 := F.slot_gs_get.lookup
  have x4 := F.slot_gs_set.lookup
  walk_at "ws"
  refine fn_get_class hx hc ?_
  walk_at "ws"
theorem fn_call_class {u : Tok} {R : Result → Shared → Prop} (hx : h.get? a = some o) (hc : o.cls = .type "function") (hq : R (.ok (.ret (.type "function"))) ⟨h, gs, dr, tk, os⟩) :
    codeAny (model pr w) A (.call (.builtin "object.__getattribute__") ⟨[.ref a, .str "__class__" u], []⟩) R ⟨h, gs, dr, tk, os⟩ :=
  codeAny_call_builtin fn_slot_ga.plain fn_entry_ga (fn_slot_ga.check _ _ _ _ _ _ _ _ (show Shared.TypeIs ⟨h, gs, dr, tk, os⟩ (.ref a) "function" from ⟨_, hx, hc⟩) (fn_args_ga _ _) (fn_entry_class hx hc hq))
theorem fn_by_class {u : Tok} {Q : Value → Shared → Prop} (hx : h.get? a = some o) (hc : o.cls = .type "function") (hq : Q (.type "function") ⟨h, gs, dr, tk, os⟩) : wpAny (model pr w) A (getAttrBy (.ref a) (.str "__class__" u) false) Q E ⟨h, gs, dr, tk, os⟩ := by
  have tx : Shared.TypeIs ⟨h, gs, dr, tk, os⟩ (.ref a) "function" := ⟨_, hx, hc⟩
  have x2 := fn_slot_ga.lookup
  have x3 := fn_slot_ga.bind (.ref a)
  walk_at "ws"
  refine fn_call_class hx hc ?_
  walk_at "ws"
theorem fn_attr_class {Q : Option Value → Shared → Prop} (hx : h.get? a = some o) (hc : o.cls = .type "function") (hq : Q (some (.type "function")) ⟨h, gs, dr, tk + 1, os⟩) : wpAny (model pr w) A (getAttr? (.ref a) "__class__") Q E ⟨h, gs, dr, tk, os⟩ := by
  unfold getAttr? getAttrBy?
  repeat (any_goals (first | assumption | (with_reducible apply fn_by_class hx hc) | wp_step))
theorem kitx_fn {K : PySem.W.Frag} : PySem.W.KitX K (.ref a) (.type "function") (PySem.W.KitAt a "function") :=
  PySem.W.kitx_of PySem.W.kitAt_ty (fun {_ _ _ _ _ s} p k => by
    obtain ⟨h1, g1, d1, t1, o1⟩ := s
    obtain ⟨ob, z1, z2⟩ := p
    exact fn_attr_class z1 z2 k)
end
/-! ### isinstance of anything, a def too -/
def rIsiF (K : PySem.W.Frag) : List V → Hp → VK → Prop := fun xs H Q => ∃ (f : Addr) (F : NF) (c : V) (cv : Value) (b : Bool), xs = [.ref f, c] ∧ H f = some (FnO f F) ∧ ClsV c cv ∧ PySem.W.kitOne K (.type "function") cv = some b ∧ Q (.bl b) H
theorem call_isiF {X : Cx} : CallR X (.builtin "isinstance") (rIsiF X.K) := by
  intro pins s σ H xs us Q I r h
  obtain ⟨f, F, c, cv, b, rfl, hf, k, e, q⟩ := h
  cases r with
  | cons r1 r2 =>
    cases r2 with
    | cons r2 r3 =>
      cases r3
      have e2 := k.eq r2
      subst e2
      cases r1
      obtain ⟨od, sl, doc, pm, ctv, ho⟩ := fnO_at I.hok hf
      exact PySem.W.kia_one kitx_fn I.kIn ⟨_, ho, rfl⟩ e (fun z => nomatch z) fun tk => ⟨.bl b, H, I.tok tk, rfl, q⟩
def hIsiF (K : PySem.W.Frag) : List D → OH → KH → Prop
  | [.fn _ _ _ _ _, .v c], A, Q => ∃ (cv : Value) (b : Bool), ClsV c cv ∧ PySem.W.kitOne K (.type "function") cv = some b ∧ Q (.v (.bl b)) A
  | ds, A, Q => hIsi K ds A Q
theorem l_isiF {K : PySem.W.Frag} : LC K (fun xs H Q => rIsi K xs H Q ∨ rIsiF K xs H Q) (hIsiF K) := by
  intro θ H A xs ds Q Qh r ra w k
  unfold hIsiF at w
  split at w
  · obtain ⟨cv, b, h1, h2, q⟩ := w
    cases r with
    | cons r1 r2 =>
      cases r2 with
      | cons r2 r3 =>
        cases r3
        cases r2
        cases r1 with
        | fn hf g hc c rc => exact .inr ⟨_, _, _, cv, b, rfl, hf, h1, h2, k.here ra (.v _) q⟩
  · exact .inl (l_isi θ H A xs _ Q Qh r ra w k)
theorem call_isiA {X : Cx} : CallR X (.builtin "isinstance") (fun xs H Q => rIsi X.K xs H Q ∨ rIsiF X.K xs H Q) := call_isi.or call_isiF
theorem kit_fn_tup {K : PySem.W.Frag} : PySem.W.kitOne K (.type "function") (.type "tuple") = some false := by rfl
end Rp

/-! x in a list of instances with an own ==, over data. -/
namespace Rp
open PySem PySem.Spec PyProof.Rows L2
open PySem.SeqAt MeetsSeq MeetsSeq2 MeetsSeq3 SeqRoads2
section
variable {prog : Program} {w : World} {A : Around} {R : Result → Shared → Prop} {Iv : Shared → Prop} {u : Value} {bl : List Bool} {Pi : Nat → Value → Prop}
/-- each turn tells its own truth, and Iv stays -/
def TurnsO (prog : Program) (w : World) (A : Around) (E : Value → Shared → Prop) (u : Value) (Pi : Nat → Value → Prop) (bl : List Bool) (Iv : Shared → Prop) : Prop :=
  ∀ (i : Nat) (y : Value) (b : Bool) (s : Shared), Pi i y → bl[i]? = some b → Iv s → wpAny (model prog w) A (eqBool y u) (fun r s' => r = b ∧ Iv s') E s
theorem hasO_loop {l : Addr} (hl : ∀ s, Iv s → ∃ (its : List Value) (n : Nat), s.heap.get? l = some { cls := .type "list", data := .seq its.toArray n } ∧ its.length = bl.length ∧ ∀ i y, its[i]? = some y → Pi i y) (turn : TurnsO prog w A.in1 (fun e s' => R (.error e) s') u Pi bl Iv)
    (yes : ∀ s, Iv s → R (.ok (.ret (.bool (bl.any id)))) s) (k : Nat) : ∀ i : Nat, bl.length - i = k → i ≤ bl.length → (bl.take i).any id = false → ∀ s, Iv s →
      wpAny (model prog w) A.in1 (Builtin.«list.__contains__.loop» ⟨[.ref l, u, rawInt i], []⟩) (GQ.FinOf prog w A R) (fun e s' => R (.error e) s') s := by
  induction k with
  | zero =>
    intro i hk hi hz s h
    obtain ⟨its, n, hl1, hlen, hP⟩ := hl s h
    have hi' : i = bl.length := by omega
    have e : bl.any id = false := by
      rw [hi', List.take_length] at hz
      exact hz
    have hR := yes s h
    rw [e] at hR
    obtain ⟨hp, g, d, tk, os⟩ := s
    wp_walk using AutoSeq1.wpAny_loadPart' hl1
    have hi1 : its.toArray[((i : Nat) : Int).toNat]? = none := by simp; omega
    rw [hi1]
    wp_walk
    exact hR
  | succ k ih =>
    intro i hk hi hz s h
    obtain ⟨its, n, hl1, hlen, hP⟩ := hl s h
    have hlt : i < its.length := by omega
    have hlt2 : i < bl.length := by omega
    have ht := turn i its[i] bl[i] s (hP _ _ (List.getElem?_eq_getElem hlt)) (List.getElem?_eq_getElem hlt2) h
    obtain ⟨hp, g, d, tk, os⟩ := s
    wp_walk using AutoSeq1.wpAny_loadPart' hl1
    have hi1 : its.toArray[((i : Nat) : Int).toNat]? = some its[i] := by simp [hlt]
    have hc : ((i : Int) + 1) = ((i + 1 : Nat) : Int) := by omega
    rw [hi1]
    refine wpAny_bind (wpAny_mono ht (fun r s2 h2 => ?_) fun _ _ x => x)
    obtain ⟨hr, h2⟩ := h2
    have tk1 : (bl.take (i + 1)).any id = bl[i] := by
      rw [List.take_succ_eq_append_getElem hlt2, List.any_append, hz]
      simp
    cases hb : bl[i] with
    | true =>
      rw [hb] at hr
      subst hr
      have hR := yes s2 h2
      have e : bl.any id = true := by
        rw [List.any_eq_true]
        exact ⟨_, List.getElem_mem hlt2, by rw [hb]; rfl⟩
      rw [e] at hR
      obtain ⟨hp2, g2, d2, tk2, os2⟩ := s2
      wp_walk
      exact hR
    | false =>
      rw [hb] at hr tk1
      subst hr
      have hrec := ih (i + 1) (by omega) (by omega) tk1 s2 h2
      obtain ⟨hp2, g2, d2, tk2, os2⟩ := s2
      wp_walk
      rw [hc]
      exact ⟨plainId_quiet plain_contains_loop _, codeAny_builtin entry_contains_loop (by
        rw [Around.under_plainId plain_contains_loop _]
        exact hrec)⟩
theorem hasO_list {E : Value → Shared → Prop} {Q : Value → Shared → Prop} {l : Addr} {s : Shared} (hl : ∀ s, Iv s → ∃ (its : List Value) (n : Nat), s.heap.get? l = some { cls := .type "list", data := .seq its.toArray n } ∧ its.length = bl.length ∧ ∀ i y, its[i]? = some y → Pi i y) (turn : TurnsO prog w A.in1 E u Pi bl Iv) (h : Iv s) (yes : ∀ s, Iv s → Q (.bool (bl.any id)) s) :
    wpAny (model prog w) A (call (.builtin "list.__contains__") [.ref l, u]) Q E s := by
  obtain ⟨its, n, hl1, _, _⟩ := hl s h
  refine GQ.call_here PySem.F.slot_list_contains ⟨_, hl1, rfl⟩ PySem.F.entry_list_contains (PySem.F.args_list_contains_2 _ _) ?_
  have hrec := hasO_loop (A := A) (R := wants Q E) (u := u) hl turn (fun s h => yes s h) _ 0 rfl (Nat.zero_le _) rfl s h
  obtain ⟨hp, g, d, tk, os⟩ := s
  wp_walk
  exact ⟨plainId_quiet plain_contains_loop _, codeAny_builtin entry_contains_loop (by
    rw [Around.under_plainId plain_contains_loop _]
    exact hrec)⟩
theorem eqB_ofO {E : Value → Shared → Prop} {s : Shared} {u v : Value} {Q : Bool → Shared → Prop} (hne : u ≠ v) (hf : ∀ x t, u ≠ .float x t) (h : wpAny (model prog w) A (richCompare .Eq u v) (fun r s' => ∃ b, r = .bool b ∧ Q b s') E s) : wpAny (model prog w) A (eqBool u v) Q E s := by
  unfold eqBool
  refine wpAny_holding ?_
  refine wpAny_ite_split (fun hab => absurd (eq_of_beq hab) hne) (fun _ => ?_)
  have fin : wpAny (model prog w) A (richCompare .Eq u v >>= fun r => truthOfDropped r) Q E s := wpAny_bind (wpAny_mono h (fun r s' hv => by
    obtain ⟨b, rfl, q⟩ := hv
    exact wpAny_truthy_bool q) fun _ _ x => x)
  cases u <;> first | exact fin | exact absurd rfl (hf _ _)
theorem eqB_selfO {E : Value → Shared → Prop} {s : Shared} {a : Addr} {Q : Bool → Shared → Prop} (q : Q true s) : wpAny (model prog w) A (eqBool (.ref a) (.ref a)) Q E s := by
  unfold eqBool
  refine wpAny_holding ?_
  refine wpAny_ite_split (fun _ => ?_) (fun h => absurd ?_ h)
  · wp_walk
    exact q
  · simp
end
/-- an item that == is asked of -/
def EqAskO (K : PySem.W.Frag) (C : Addr) (sp : Sp) (J : Hp → Prop) (v x : V) (b : Bool) (H : Hp) : Prop :=
  (v = x ∧ b = true) ∨ (v ≠ x ∧ ∃ a dx fs t, v = .ref a ∧ H a = some (.ins C dx fs) ∧ TyX K H x t ∧ PySem.W.notFirst K C t = true ∧ sp [v, x] H (fun r H' => r = .bl b ∧ J H') (fun _ _ _ => False))
def rInO (K : PySem.W.Frag) (C : Addr) (sp : Sp) (neg : Bool) : R2 := fun x y H Q => ∃ (a p : Addr) (xs : List V) (bl : List Bool) (J : Hp → Prop), x = .ref a ∧ y = .ref p ∧ J H ∧ (∀ H', J H' → H' p = some (.lst xs)) ∧ xs.length = bl.length ∧
  (∀ (i : Nat) (v : V) (b : Bool) (H' : Hp), xs[i]? = some v → bl[i]? = some b → J H' → EqAskO K C sp J v x b H') ∧ ∀ H', J H' → Q (.bl (if neg = true then !(bl.any id) else bl.any id)) H'
section
variable {X : Cx} {C fE : Addr} {fdE : FuncData} {k : Nat} {sp : Sp} {pins : List (Addr × Obj)} {σ : L2.St} {H : Hp} {s : Shared}
theorem hasO_any (Z : EqK X.K C fE) (FE : FnOk X.prog X.w X.K X.mg X.base CX0 k fE fdE ["self", "other"] sp) (bE : L2.Binds X.K fdE ["self", "other"] []) (hr : Room (k + 1) X.A) (I : Inv X pins σ H s) {a p : Addr} {xs : List V} {bl : List Bool} {J : Hp → Prop} (hJ : J H) (hl : ∀ H', J H' → H' p = some (.lst xs)) (hlen : xs.length = bl.length)
    (hx : ∀ (i : Nat) (v : V) (b : Bool) (H' : Hp), xs[i]? = some v → bl[i]? = some b → J H' → EqAskO X.K C sp J v (.ref a) b H') {Q : Bool → Shared → Prop} (yes : ∀ H' s', J H' → Inv X pins σ H' s' → Q (bl.any id) s') : wpAny (model X.prog X.w) X.A (contains (.ref p) (.ref a)) Q X.xe s := by
  have turn : TurnsO X.prog X.w X.A.in1 X.xe (.ref a) (fun i y => ∃ v, xs[i]? = some v ∧ RelV v y) bl (fun s => ∃ H', J H' ∧ Inv X pins σ H' s) := by
    rintro i y b s' ⟨v, hv, rv⟩ hb ⟨H', hJ', I'⟩
    rcases hx i v b H' hv hb hJ' with ⟨rfl, rfl⟩ | ⟨hne, a', dx, fs, t, rfl, ha, ty, nf, hsp⟩
    · cases rv
      exact eqB_selfO ⟨rfl, H', hJ', I'⟩
    · cases rv
      have hne' : (Value.ref a') ≠ .ref a := fun z => hne (by cases z; rfl)
      refine eqB_ofO hne' (fun x t z => by cases z) ?_
      obtain ⟨mA, Ja, _⟩ := ins_get I'.hok ha
      obtain ⟨od, Ja, _⟩ := Ja.look
      obtain ⟨Pz, KX, pz, _⟩ := kit_of (u := Value.ref a) I' (show RelV (.ref a) (.ref a) from rfl) ty
      obtain ⟨m, hF⟩ := I'.fr
      have e := I'.env0
      refine PySem.W.cmp_K (op := .Eq) (tb := t) hr.in1.units0 hF I'.ok.mod.kin Ja (KX.ty _ _ I'.kIn pz) nf Z.eq Z.eqf ?_
      refine wpAny_call (codeAny_mono (FE.run X.A.in1 X.stack s' H' ⟨[.ref a', .ref a], []⟩ [.ref a', .ref a] [.ref a', .ref a] _ _ hr.in1 e.in1 (by
        have := bE s' [.ref a', .ref a] I'.kIn (by rfl)
        simpa using this) (.cons rfl (.cons rfl .nil)) hsp) fun r s' hq => ?_)
      cases r with
      | error e => exact (pass0 (X := X)) pins σ _ _ e _ I' hq
      | ok fl =>
        cases fl with
        | ret w =>
          obtain ⟨z, H2, I2, rz, ez, q⟩ := I'.after hq
          subst ez
          cases rz
          exact ⟨b, rfl, rfl, H2, q, I2⟩
        | next => exact False.elim hq
        | brk => exact False.elim hq
        | cont => exact False.elim hq
  have rel : ∀ {its : List Value}, Vals xs its → ∀ (i : Nat) (y : Value), its[i]? = some y → ∃ v, xs[i]? = some v ∧ RelV v y := by
    intro its r i y hy
    have hi : i < xs.length := by
      have := (List.getElem?_eq_some_iff.mp hy).1
      rw [r.length]; exact this
    obtain ⟨u', hu, ru⟩ := r.get (List.getElem?_eq_getElem hi)
    rw [hy] at hu
    cases hu
    exact ⟨_, List.getElem?_eq_getElem hi, ru⟩
  have at_ : ∀ s' : Shared, (∃ H', J H' ∧ Inv X pins σ H' s') → ∃ (its : List Value) (n : Nat), s'.heap.get? p = some { cls := .type "list", data := .seq its.toArray n } ∧ its.length = bl.length ∧ ∀ i y, its[i]? = some y → ∃ v, xs[i]? = some v ∧ RelV v y := fun s' ⟨H', hJ', I'⟩ => by
    obtain ⟨_, its, n, r, h1⟩ := (show ObjOk X.prog X.w H' s'.heap p (.lst xs) from I'.hok p _ (hl H' hJ'))
    exact ⟨its, n, h1, by rw [← r.length]; exact hlen, rel r⟩
  obtain ⟨its, n, h1, _, _⟩ := at_ s ⟨H, hJ, I⟩
  refine wpAny_contains_slot (T := "list") ⟨_, h1, rfl⟩ PySem.F.slot_list_contains (hasO_list (Iv := fun s => ∃ H', J H' ∧ Inv X pins σ H' s) (Pi := fun i y => ∃ v, xs[i]? = some v ∧ RelV v y) at_ turn ⟨H, hJ, I⟩ fun s' ⟨H', hJ', I'⟩ => ?_)
  exact wpAny_truthy_bool (yes H' s' hJ' I')
theorem op_inO (Z : EqK X.K C fE) (FE : FnOk X.prog X.w X.K X.mg X.base CX0 k fE fdE ["self", "other"] sp) (bE : L2.Binds X.K fdE ["self", "other"] []) (hr : Room (k + 1) X.A) : OpR X (compareOp .In) (rInO X.K C sp false) := by
  intro pins s σ H x y v u Q I rx ry h
  obtain ⟨a, p, xs, bl, J, rfl, rfl, hJ, hl, hlen, hx, q⟩ := h
  cases rx
  cases ry
  show wpAny _ _ (do return Value.bool (← contains (.ref p) (.ref a))) _ _ s
  exact wpAny_bind (hasO_any Z FE bE hr I hJ hl hlen hx fun H' s' hJ' I' => wpAny_pure ⟨.bl _, H', I', rfl, q H' hJ'⟩)
theorem op_notInO (Z : EqK X.K C fE) (FE : FnOk X.prog X.w X.K X.mg X.base CX0 k fE fdE ["self", "other"] sp) (bE : L2.Binds X.K fdE ["self", "other"] []) (hr : Room (k + 1) X.A) : OpR X (compareOp .NotIn) (rInO X.K C sp true) := by
  intro pins s σ H x y v u Q I rx ry h
  obtain ⟨a, p, xs, bl, J, rfl, rfl, hJ, hl, hlen, hx, q⟩ := h
  cases rx
  cases ry
  show wpAny _ _ (do return Value.bool (!(← contains (.ref p) (.ref a)))) _ _ s
  exact wpAny_bind (hasO_any Z FE bE hr I hJ hl hlen hx fun H' s' hJ' I' => wpAny_pure ⟨.bl _, H', I', rfl, q H' hJ'⟩)
end
/-! ### over data -/
def EqAskD (K : PySem.W.Frag) (C : Addr) (sp : Sph) (a : Nat) (v : D) (b : Bool) (A : OH) : Prop :=
  (v = .ptr a ∧ b = true) ∨ (∃ i fs t, v = .ptr i ∧ i ≠ a ∧ A[i]? = some (.ins C fs) ∧ TyD K A (.ptr a) t ∧ PySem.W.notFirst K C t = true ∧ Ask sp [.ptr i, .ptr a] A fun r A' => r = .v (.bl b) ∧ A' = A)
def hInO (K : PySem.W.Frag) (C : Addr) (sp : Sph) (neg : Bool) : R2h := fun d e A Q => match d, e with
  | .ptr a, .ptr l => ∃ (ds : List D) (bl : List Bool), A[l]? = some (.lst ds) ∧ ds.length = bl.length ∧ (∀ (i : Nat) (v : D) (b : Bool), ds[i]? = some v → bl[i]? = some b → EqAskD K C sp a v b A) ∧ Q (.v (.bl (if neg = true then !(bl.any id) else bl.any id))) A
  | _, _ => False
theorem l_inO {K : PySem.W.Frag} {C : Addr} {sp : Sph} {neg : Bool} : LR K (rInO K C (spOf K 2 sp) neg) (hInO K C sp neg) := by
  intro θ H A x y d e Q Qh rd re ra w k
  unfold hInO at w
  split at w
  · obtain ⟨ds, bl, h0, hlen, hx, q⟩ := w
    cases rd with
    | ptr ha =>
      cases re with
      | ptr hp =>
        obtain ⟨xs, g, r⟩ := ra.ok _ _ _ hp h0
        have up : ∀ {θ' : List Addr} {H' : Hp} {i : Nat} {c : Addr}, Ext θ H θ' H' → θ[i]? = some c → θ'[i]? = some c := fun e' h => by
          cases (RD.ptr (K := K) (H := H) h).ext e' with
          | ptr h => exact h
        refine ⟨_, _, xs, bl, fun H' => ∃ θ', Ext θ H θ' H' ∧ RA K θ' H' A, rfl, rfl, ⟨θ, Ext.refl θ H, ra⟩, ?_, by rw [r.length]; exact hlen, ?_, fun H' ⟨θ', e', ra'⟩ => k _ _ _ _ _ e' ra' (.v _) q⟩
        · rintro H' ⟨θ', e', ra'⟩
          obtain ⟨xs', g', r'⟩ := ra'.ok _ _ _ (up e' hp) h0
          have : xs' = xs := List.ext_getElem? fun i => by
            cases hv : xs[i]? with
            | none =>
              rw [List.getElem?_eq_none_iff] at hv ⊢
              rw [r'.length, ← r.length]; exact hv
            | some v =>
              obtain ⟨dv, hd, rv⟩ := r.get' hv
              obtain ⟨v', hv', rv'⟩ := r'.get hd
              have hi : i < bl.length := by rw [← hlen]; exact (List.getElem?_eq_some_iff.mp hd).1
              obtain ⟨j, rfl⟩ : ∃ j, dv = .ptr j := by
                rcases hx i dv bl[i] hd (List.getElem?_eq_getElem hi) with ⟨rfl, _⟩ | ⟨j, _, _, rfl, _⟩
                · exact ⟨_, rfl⟩
                · exact ⟨_, rfl⟩
              cases rv with
              | ptr h1 =>
                cases rv' with
                | ptr h2 =>
                  rw [up e' h1] at h2
                  cases h2
                  exact hv'
          rw [this] at g'
          exact g'
        · rintro i v b H' hv hb ⟨θ', e', ra'⟩
          obtain ⟨dv, hd, rv⟩ := r.get' hv
          rcases hx i dv b hd hb with ⟨rfl, rfl⟩ | ⟨j, fs, t, rfl, hne, hj, ty, nf, ask⟩
          · cases rv with
            | ptr h1 =>
              rw [ha] at h1
              cases h1
              exact .inl ⟨rfl, rfl⟩
          · cases rv with
            | @ptr _ c h1 =>
              have h1' := up e' h1
              have ha' := up e' ha
              obtain ⟨dx, fs', g2, _, rf⟩ := ra'.ok _ _ _ h1' hj
              refine .inr ⟨fun z => ?_, _, dx, fs', t, rfl, g2, ty.ty ra' (.ptr ha'), nf, rfl, θ', _, A, _, .cons (.ptr h1') (.cons (.ptr ha') .nil), ra', ask.h, fun θ2 H2 A2 v d e2 ra2 r2 q => ?_⟩
              · cases z
                exact hne ((List.getElem?_inj (List.getElem?_eq_some_iff.mp h1).1 ra.nd).mp (by rw [h1, ha]))
              · obtain ⟨rfl, rfl⟩ := q
                cases r2
                exact ⟨rfl, θ2, e'.trans e2, ra2⟩
  · exact w.elim
end Rp

/-! Loops that change many slots; tuples repeated any number of times. -/
namespace Rp
open PySem PySem.Spec PyProof.Rows L2
section
variable {src : Src} {F : StQ → D → StQ} {N : StQ} {σ : SH} {A : OH} {G : StQ → StQ}
theorem ForQ.s13 (p0 p1 p2 p3 p4 p5 p6 p7 p8 p9 p10 p11 p12 : Nat) (J : Nat → Option D → Option D → Option D → Option D → Option D → Option D → Option D → Option D → Option D → Option D → Option D → Option D → Option D → OH → Prop) (h0 : ∃ x0 x1 x2 x3 x4 x5 x6 x7 x8 x9 x10 x11 x12, (((((((((((((σ.set p0 x0).set p1 x1).set p2 x2).set p3 x3).set p4 x4).set p5 x5).set p6 x6).set p7 x7).set p8 x8).set p9 x9).set p10 x10).set p11 x11).set p12 x12) = σ ∧ J 0 x0 x1 x2 x3 x4 x5 x6 x7 x8 x9 x10 x11 x12 A) (hl : ∀ i x0 x1 x2 x3 x4 x5 x6 x7 x8 x9 x10 x11 x12 A, i ≤ src.n → J i x0 x1 x2 x3 x4 x5 x6 x7 x8 x9 x10 x11 x12 A → src.live A)
    (hs : ∀ i dd x0 x1 x2 x3 x4 x5 x6 x7 x8 x9 x10 x11 x12 A, i < src.n → src.item i = some dd → J i x0 x1 x2 x3 x4 x5 x6 x7 x8 x9 x10 x11 x12 A → F (fun σ' A' => Lf (∃ x0' x1' x2' x3' x4' x5' x6' x7' x8' x9' x10' x11' x12', σ' = (((((((((((((σ.set p0 x0').set p1 x1').set p2 x2').set p3 x3').set p4 x4').set p5 x5').set p6 x6').set p7 x7').set p8 x8').set p9 x9').set p10 x10').set p11 x11').set p12 x12') ∧ J (i + 1) x0' x1' x2' x3' x4' x5' x6' x7' x8' x9' x10' x11' x12' A')) dd (((((((((((((σ.set p0 x0).set p1 x1).set p2 x2).set p3 x3).set p4 x4).set p5 x5).set p6 x6).set p7 x7).set p8 x8).set p9 x9).set p10 x10).set p11 x11).set p12 x12) A)
    (hn : ∀ x0 x1 x2 x3 x4 x5 x6 x7 x8 x9 x10 x11 x12 A, J src.n x0 x1 x2 x3 x4 x5 x6 x7 x8 x9 x10 x11 x12 A → N (((((((((((((σ.set p0 x0).set p1 x1).set p2 x2).set p3 x3).set p4 x4).set p5 x5).set p6 x6).set p7 x7).set p8 x8).set p9 x9).set p10 x10).set p11 x11).set p12 x12) A) : ForQ src F N σ A :=
  ⟨fun i σ' A' => Lf (∃ x0' x1' x2' x3' x4' x5' x6' x7' x8' x9' x10' x11' x12', σ' = (((((((((((((σ.set p0 x0').set p1 x1').set p2 x2').set p3 x3').set p4 x4').set p5 x5').set p6 x6').set p7 x7').set p8 x8').set p9 x9').set p10 x10').set p11 x11').set p12 x12') ∧ J i x0' x1' x2' x3' x4' x5' x6' x7' x8' x9' x10' x11' x12' A'), by
    obtain ⟨x0, x1, x2, x3, x4, x5, x6, x7, x8, x9, x10, x11, x12, e, j⟩ := h0
    refine ⟨.mk ⟨x0, x1, x2, x3, x4, x5, x6, x7, x8, x9, x10, x11, x12, e.symm, j⟩, fun i σ' A' hi h => (let ⟨x0, x1, x2, x3, x4, x5, x6, x7, x8, x9, x10, x11, x12, e, j⟩ := h.h; hl i x0 x1 x2 x3 x4 x5 x6 x7 x8 x9 x10 x11 x12 A' hi j), fun i dd σ' A' hi hd h => ?_, fun σ' A' h => ?_⟩
    · obtain ⟨x0, x1, x2, x3, x4, x5, x6, x7, x8, x9, x10, x11, x12, e, j⟩ := h.h; rw [e]; exact hs i dd x0 x1 x2 x3 x4 x5 x6 x7 x8 x9 x10 x11 x12 A' hi hd j
    · obtain ⟨x0, x1, x2, x3, x4, x5, x6, x7, x8, x9, x10, x11, x12, e, j⟩ := h.h; rw [e]; exact hn x0 x1 x2 x3 x4 x5 x6 x7 x8 x9 x10 x11 x12 A' j⟩
theorem ForQ.s14 (p0 p1 p2 p3 p4 p5 p6 p7 p8 p9 p10 p11 p12 p13 : Nat) (J : Nat → Option D → Option D → Option D → Option D → Option D → Option D → Option D → Option D → Option D → Option D → Option D → Option D → Option D → Option D → OH → Prop) (h0 : ∃ x0 x1 x2 x3 x4 x5 x6 x7 x8 x9 x10 x11 x12 x13, ((((((((((((((σ.set p0 x0).set p1 x1).set p2 x2).set p3 x3).set p4 x4).set p5 x5).set p6 x6).set p7 x7).set p8 x8).set p9 x9).set p10 x10).set p11 x11).set p12 x12).set p13 x13) = σ ∧ J 0 x0 x1 x2 x3 x4 x5 x6 x7 x8 x9 x10 x11 x12 x13 A) (hl : ∀ i x0 x1 x2 x3 x4 x5 x6 x7 x8 x9 x10 x11 x12 x13 A, i ≤ src.n → J i x0 x1 x2 x3 x4 x5 x6 x7 x8 x9 x10 x11 x12 x13 A → src.live A)
    (hs : ∀ i dd x0 x1 x2 x3 x4 x5 x6 x7 x8 x9 x10 x11 x12 x13 A, i < src.n → src.item i = some dd → J i x0 x1 x2 x3 x4 x5 x6 x7 x8 x9 x10 x11 x12 x13 A → F (fun σ' A' => Lf (∃ x0' x1' x2' x3' x4' x5' x6' x7' x8' x9' x10' x11' x12' x13', σ' = ((((((((((((((σ.set p0 x0').set p1 x1').set p2 x2').set p3 x3').set p4 x4').set p5 x5').set p6 x6').set p7 x7').set p8 x8').set p9 x9').set p10 x10').set p11 x11').set p12 x12').set p13 x13') ∧ J (i + 1) x0' x1' x2' x3' x4' x5' x6' x7' x8' x9' x10' x11' x12' x13' A')) dd ((((((((((((((σ.set p0 x0).set p1 x1).set p2 x2).set p3 x3).set p4 x4).set p5 x5).set p6 x6).set p7 x7).set p8 x8).set p9 x9).set p10 x10).set p11 x11).set p12 x12).set p13 x13) A)
    (hn : ∀ x0 x1 x2 x3 x4 x5 x6 x7 x8 x9 x10 x11 x12 x13 A, J src.n x0 x1 x2 x3 x4 x5 x6 x7 x8 x9 x10 x11 x12 x13 A → N ((((((((((((((σ.set p0 x0).set p1 x1).set p2 x2).set p3 x3).set p4 x4).set p5 x5).set p6 x6).set p7 x7).set p8 x8).set p9 x9).set p10 x10).set p11 x11).set p12 x12).set p13 x13) A) : ForQ src F N σ A :=
  ⟨fun i σ' A' => Lf (∃ x0' x1' x2' x3' x4' x5' x6' x7' x8' x9' x10' x11' x12' x13', σ' = ((((((((((((((σ.set p0 x0').set p1 x1').set p2 x2').set p3 x3').set p4 x4').set p5 x5').set p6 x6').set p7 x7').set p8 x8').set p9 x9').set p10 x10').set p11 x11').set p12 x12').set p13 x13') ∧ J i x0' x1' x2' x3' x4' x5' x6' x7' x8' x9' x10' x11' x12' x13' A'), by
    obtain ⟨x0, x1, x2, x3, x4, x5, x6, x7, x8, x9, x10, x11, x12, x13, e, j⟩ := h0
    refine ⟨.mk ⟨x0, x1, x2, x3, x4, x5, x6, x7, x8, x9, x10, x11, x12, x13, e.symm, j⟩, fun i σ' A' hi h => (let ⟨x0, x1, x2, x3, x4, x5, x6, x7, x8, x9, x10, x11, x12, x13, e, j⟩ := h.h; hl i x0 x1 x2 x3 x4 x5 x6 x7 x8 x9 x10 x11 x12 x13 A' hi j), fun i dd σ' A' hi hd h => ?_, fun σ' A' h => ?_⟩
    · obtain ⟨x0, x1, x2, x3, x4, x5, x6, x7, x8, x9, x10, x11, x12, x13, e, j⟩ := h.h; rw [e]; exact hs i dd x0 x1 x2 x3 x4 x5 x6 x7 x8 x9 x10 x11 x12 x13 A' hi hd j
    · obtain ⟨x0, x1, x2, x3, x4, x5, x6, x7, x8, x9, x10, x11, x12, x13, e, j⟩ := h.h; rw [e]; exact hn x0 x1 x2 x3 x4 x5 x6 x7 x8 x9 x10 x11 x12 x13 A' j⟩
theorem ForQ.s15 (p0 p1 p2 p3 p4 p5 p6 p7 p8 p9 p10 p11 p12 p13 p14 : Nat) (J : Nat → Option D → Option D → Option D → Option D → Option D → Option D → Option D → Option D → Option D → Option D → Option D → Option D → Option D → Option D → Option D → OH → Prop) (h0 : ∃ x0 x1 x2 x3 x4 x5 x6 x7 x8 x9 x10 x11 x12 x13 x14, (((((((((((((((σ.set p0 x0).set p1 x1).set p2 x2).set p3 x3).set p4 x4).set p5 x5).set p6 x6).set p7 x7).set p8 x8).set p9 x9).set p10 x10).set p11 x11).set p12 x12).set p13 x13).set p14 x14) = σ ∧ J 0 x0 x1 x2 x3 x4 x5 x6 x7 x8 x9 x10 x11 x12 x13 x14 A) (hl : ∀ i x0 x1 x2 x3 x4 x5 x6 x7 x8 x9 x10 x11 x12 x13 x14 A, i ≤ src.n → J i x0 x1 x2 x3 x4 x5 x6 x7 x8 x9 x10 x11 x12 x13 x14 A → src.live A)
    (hs : ∀ i dd x0 x1 x2 x3 x4 x5 x6 x7 x8 x9 x10 x11 x12 x13 x14 A, i < src.n → src.item i = some dd → J i x0 x1 x2 x3 x4 x5 x6 x7 x8 x9 x10 x11 x12 x13 x14 A → F (fun σ' A' => Lf (∃ x0' x1' x2' x3' x4' x5' x6' x7' x8' x9' x10' x11' x12' x13' x14', σ' = (((((((((((((((σ.set p0 x0').set p1 x1').set p2 x2').set p3 x3').set p4 x4').set p5 x5').set p6 x6').set p7 x7').set p8 x8').set p9 x9').set p10 x10').set p11 x11').set p12 x12').set p13 x13').set p14 x14') ∧ J (i + 1) x0' x1' x2' x3' x4' x5' x6' x7' x8' x9' x10' x11' x12' x13' x14' A')) dd (((((((((((((((σ.set p0 x0).set p1 x1).set p2 x2).set p3 x3).set p4 x4).set p5 x5).set p6 x6).set p7 x7).set p8 x8).set p9 x9).set p10 x10).set p11 x11).set p12 x12).set p13 x13).set p14 x14) A)
    (hn : ∀ x0 x1 x2 x3 x4 x5 x6 x7 x8 x9 x10 x11 x12 x13 x14 A, J src.n x0 x1 x2 x3 x4 x5 x6 x7 x8 x9 x10 x11 x12 x13 x14 A → N (((((((((((((((σ.set p0 x0).set p1 x1).set p2 x2).set p3 x3).set p4 x4).set p5 x5).set p6 x6).set p7 x7).set p8 x8).set p9 x9).set p10 x10).set p11 x11).set p12 x12).set p13 x13).set p14 x14) A) : ForQ src F N σ A :=
  ⟨fun i σ' A' => Lf (∃ x0' x1' x2' x3' x4' x5' x6' x7' x8' x9' x10' x11' x12' x13' x14', σ' = (((((((((((((((σ.set p0 x0').set p1 x1').set p2 x2').set p3 x3').set p4 x4').set p5 x5').set p6 x6').set p7 x7').set p8 x8').set p9 x9').set p10 x10').set p11 x11').set p12 x12').set p13 x13').set p14 x14') ∧ J i x0' x1' x2' x3' x4' x5' x6' x7' x8' x9' x10' x11' x12' x13' x14' A'), by
    obtain ⟨x0, x1, x2, x3, x4, x5, x6, x7, x8, x9, x10, x11, x12, x13, x14, e, j⟩ := h0
    refine ⟨.mk ⟨x0, x1, x2, x3, x4, x5, x6, x7, x8, x9, x10, x11, x12, x13, x14, e.symm, j⟩, fun i σ' A' hi h => (let ⟨x0, x1, x2, x3, x4, x5, x6, x7, x8, x9, x10, x11, x12, x13, x14, e, j⟩ := h.h; hl i x0 x1 x2 x3 x4 x5 x6 x7 x8 x9 x10 x11 x12 x13 x14 A' hi j), fun i dd σ' A' hi hd h => ?_, fun σ' A' h => ?_⟩
    · obtain ⟨x0, x1, x2, x3, x4, x5, x6, x7, x8, x9, x10, x11, x12, x13, x14, e, j⟩ := h.h; rw [e]; exact hs i dd x0 x1 x2 x3 x4 x5 x6 x7 x8 x9 x10 x11 x12 x13 x14 A' hi hd j
    · obtain ⟨x0, x1, x2, x3, x4, x5, x6, x7, x8, x9, x10, x11, x12, x13, x14, e, j⟩ := h.h; rw [e]; exact hn x0 x1 x2 x3 x4 x5 x6 x7 x8 x9 x10 x11 x12 x13 x14 A' j⟩
theorem ForQ.s16 (p0 p1 p2 p3 p4 p5 p6 p7 p8 p9 p10 p11 p12 p13 p14 p15 : Nat) (J : Nat → Option D → Option D → Option D → Option D → Option D → Option D → Option D → Option D → Option D → Option D → Option D → Option D → Option D → Option D → Option D → Option D → OH → Prop) (h0 : ∃ x0 x1 x2 x3 x4 x5 x6 x7 x8 x9 x10 x11 x12 x13 x14 x15, ((((((((((((((((σ.set p0 x0).set p1 x1).set p2 x2).set p3 x3).set p4 x4).set p5 x5).set p6 x6).set p7 x7).set p8 x8).set p9 x9).set p10 x10).set p11 x11).set p12 x12).set p13 x13).set p14 x14).set p15 x15) = σ ∧ J 0 x0 x1 x2 x3 x4 x5 x6 x7 x8 x9 x10 x11 x12 x13 x14 x15 A) (hl : ∀ i x0 x1 x2 x3 x4 x5 x6 x7 x8 x9 x10 x11 x12 x13 x14 x15 A, i ≤ src.n → J i x0 x1 x2 x3 x4 x5 x6 x7 x8 x9 x10 x11 x12 x13 x14 x15 A → src.live A)
    (hs : ∀ i dd x0 x1 x2 x3 x4 x5 x6 x7 x8 x9 x10 x11 x12 x13 x14 x15 A, i < src.n → src.item i = some dd → J i x0 x1 x2 x3 x4 x5 x6 x7 x8 x9 x10 x11 x12 x13 x14 x15 A → F (fun σ' A' => Lf (∃ x0' x1' x2' x3' x4' x5' x6' x7' x8' x9' x10' x11' x12' x13' x14' x15', σ' = ((((((((((((((((σ.set p0 x0').set p1 x1').set p2 x2').set p3 x3').set p4 x4').set p5 x5').set p6 x6').set p7 x7').set p8 x8').set p9 x9').set p10 x10').set p11 x11').set p12 x12').set p13 x13').set p14 x14').set p15 x15') ∧ J (i + 1) x0' x1' x2' x3' x4' x5' x6' x7' x8' x9' x10' x11' x12' x13' x14' x15' A')) dd ((((((((((((((((σ.set p0 x0).set p1 x1).set p2 x2).set p3 x3).set p4 x4).set p5 x5).set p6 x6).set p7 x7).set p8 x8).set p9 x9).set p10 x10).set p11 x11).set p12 x12).set p13 x13).set p14 x14).set p15 x15) A)
    (hn : ∀ x0 x1 x2 x3 x4 x5 x6 x7 x8 x9 x10 x11 x12 x13 x14 x15 A, J src.n x0 x1 x2 x3 x4 x5 x6 x7 x8 x9 x10 x11 x12 x13 x14 x15 A → N ((((((((((((((((σ.set p0 x0).set p1 x1).set p2 x2).set p3 x3).set p4 x4).set p5 x5).set p6 x6).set p7 x7).set p8 x8).set p9 x9).set p10 x10).set p11 x11).set p12 x12).set p13 x13).set p14 x14).set p15 x15) A) : ForQ src F N σ A :=
  ⟨fun i σ' A' => Lf (∃ x0' x1' x2' x3' x4' x5' x6' x7' x8' x9' x10' x11' x12' x13' x14' x15', σ' = ((((((((((((((((σ.set p0 x0').set p1 x1').set p2 x2').set p3 x3').set p4 x4').set p5 x5').set p6 x6').set p7 x7').set p8 x8').set p9 x9').set p10 x10').set p11 x11').set p12 x12').set p13 x13').set p14 x14').set p15 x15') ∧ J i x0' x1' x2' x3' x4' x5' x6' x7' x8' x9' x10' x11' x12' x13' x14' x15' A'), by
    obtain ⟨x0, x1, x2, x3, x4, x5, x6, x7, x8, x9, x10, x11, x12, x13, x14, x15, e, j⟩ := h0
    refine ⟨.mk ⟨x0, x1, x2, x3, x4, x5, x6, x7, x8, x9, x10, x11, x12, x13, x14, x15, e.symm, j⟩, fun i σ' A' hi h => (let ⟨x0, x1, x2, x3, x4, x5, x6, x7, x8, x9, x10, x11, x12, x13, x14, x15, e, j⟩ := h.h; hl i x0 x1 x2 x3 x4 x5 x6 x7 x8 x9 x10 x11 x12 x13 x14 x15 A' hi j), fun i dd σ' A' hi hd h => ?_, fun σ' A' h => ?_⟩
    · obtain ⟨x0, x1, x2, x3, x4, x5, x6, x7, x8, x9, x10, x11, x12, x13, x14, x15, e, j⟩ := h.h; rw [e]; exact hs i dd x0 x1 x2 x3 x4 x5 x6 x7 x8 x9 x10 x11 x12 x13 x14 x15 A' hi hd j
    · obtain ⟨x0, x1, x2, x3, x4, x5, x6, x7, x8, x9, x10, x11, x12, x13, x14, x15, e, j⟩ := h.h; rw [e]; exact hn x0 x1 x2 x3 x4 x5 x6 x7 x8 x9 x10 x11 x12 x13 x14 x15 A' j⟩
end
/-! ### a tuple repeated, from no time on -/
theorem tuple_mulZ (l : Addr) (items : Array Value) (n : Nat) (dd : Option Addr) (sl : Array (Option Value)) (u : Tok) (c1 : (items.isEmpty || (0 : Int) == 1) = false) :
    Meets (Builtin.«tuple.__mul__» ⟨[.ref l, .int 0 u], []⟩) (fun _ R s => s.heap.get? l = some { cls := .type "tuple", dict := dd, data := .seq items n, slots := sl } ∧
      R (.ok (.ret (Value.ref s.heap.objs.size))) { s with heap := s.heap.push { cls := Value.type "tuple", data := Data.seq #[] }, toks := s.toks }) :=
  .of_wp fun prog w A R s h => by
    obtain ⟨hp, g, d, tk, os⟩ := s
    obtain ⟨hl, h⟩ := h
    have f1 := AutoSeq1.idx_int
    wp_walk using AutoSeq1.wpAny_loadPart' hl
    repeat (first
      | (refine wpAny_ite_false (decide_eq_false (by rw [c1]; exact Bool.false_ne_true)) ?_; wp_walk using AutoSeq1.wpAny_loadPart' hl))
    exact ⟨_, rfl, h⟩
def rRepT0 (K : PySem.W.Frag) : R2 := fun x y H Q => ∃ l k xs, x = .ref l ∧ y = .int k ∧ SqT K H l xs ∧ xs ≠ [] ∧ 0 ≤ k ∧ k ≤ 1000 ∧ xs.length ≤ 1000 ∧ (k = 0 → ∀ p, H p = none → Q (.ref p) (upd H p (.tup []))) ∧ (k = 1 → Q (.ref l) H) ∧ (2 ≤ k → ∀ p, H p = none → Q (.ref p) (upd H p (.tup (List.replicate k.toNat xs).flatten)))
theorem op_repT0 {X : Cx} : OpR X (binaryOp .Mult) (rRepT0 X.K) := by
  intro pins s σ H x y v u Q I rx ry h
  obtain ⟨l, k, xs, rfl, rfl, hT, hne, h1, h2, hz, q0, q1, q2⟩ := h
  by_cases c : k = 0
  · subst c
    cases rx
    obtain ⟨t, rfl⟩ := ry
    obtain ⟨its, r, ⟨⟨cls, dd, data, sl⟩, ho, hc, n, hd⟩, hs⟩ := I.tuple hT
    simp only at hc hd
    subst hc hd
    have hle : its.length = xs.length := r.length.symm
    have hn : its ≠ [] := fun e => hne (by
      rw [e] at hle
      exact List.eq_nil_of_length_eq_zero hle.symm)
    have hi : its.toArray.isEmpty = false := by
      cases its with
      | nil => exact absurd rfl hn
      | cons a b => rfl
    refine wpAny_binaryOp_repeat_ref (T := "tuple") (U := "int") (by decide) ⟨_, ho, rfl⟩ (fun s' => typeIs_int s' 0 t) noFill_tuple_mul PySem.F.fills_int_mul PySem.F.slot_int_rmul repeat_tuple PySem.F.slot_int_index.lookup
      (call_meets PySem.F.slot_int_rmul (typeIs_int s 0 t) PySem.F.entry_int_rmul (PySem.F.args_int_rmul_2 _ _) (int_rmul_tuple 0 t l its.toArray n dd sl)
        ⟨ho, rfl, ⟨_, ho, rfl⟩, call_meets PySem.F.slot_tuple_mul ⟨_, ho, rfl⟩ PySem.F.entry_tuple_mul (PySem.F.args_tuple_mul_2 _ _) (tuple_mulZ l its.toArray n dd sl t (by rw [hi]; rfl)) ⟨ho, ?_⟩⟩)
    refine ⟨.ref s.heap.objs.size, _, I.laid (t' := s.toks) (o := .tup []) (fun b ob q => Heap.get?_push_of_some _ q) (Nat.le_refl _) ?_, rfl, q0 rfl _ (I.hok.fresh (Nat.le_refl _))⟩
    exact ⟨by show 0 ≤ sizeLine; exact Nat.zero_le _, [], .nil, IsTup.new _ _⟩
  · exact op_repT1 pins s σ H _ _ v u Q I rx ry ⟨l, k, xs, rfl, rfl, hT, hne, by omega, h2, hz, q1, q2⟩
def hRepT0 : R2h
  | .tup ds, .v (.int k), A, Q => (ds ≠ [] ∧ 0 ≤ k ∧ k ≤ 1000 ∧ ds.length ≤ 1000) ∧ Q (.tup (List.replicate k.toNat ds).flatten) A
  | _, _, _, _ => False
theorem l_repT0 {K : PySem.W.Frag} : LR K (rRepT0 K) hRepT0 := by
  intro θ H A x y d e Q Qh rd re ra w k
  unfold hRepT0 at w
  split at w
  · obtain ⟨⟨h1, h2, h3, h4⟩, q⟩ := w
    cases re
    have rd' := rd
    cases rd with
    | tup hs r =>
      refine ⟨_, _, _, rfl, rfl, hs, fun z => h1 ?_, h2, h3, by rw [r.length]; exact h4, fun z p hp => ?_, fun z => ?_, fun z p hp => k.tup ra (r.replicate _) q hp⟩
      · rw [z] at r
        cases r
        rfl
      · subst z
        have q : Qh (.tup []) A := q
        exact k.tup ra .nil q hp
      · subst z
        have q : Qh (.tup (List.replicate 1 _).flatten) A := q
        rw [List.replicate_one, List.flatten_singleton] at q
        exact k.here ra rd' q
  · exact w.elim
end Rp

/-! zip of a tuple and a list, over data. -/
namespace Rp
open PySem PySem.Spec PyProof.Rows L2
/-- the tuple at a and the list at b, turn by turn, in new pairs -/
def ItzM (K : PySem.W.Frag) (a b : Addr) : It :=
  ⟨fun i H => ∃ (xs ys : List V) (p : V × V), (SqT K H a xs ∧ SqL K H b ys) ∧ xs[i]? = some p.1 ∧ ys[i]? = some p.2,
   fun i H v H' => ∃ (T : Addr) (p : V × V), v = .ref T ∧ H T = none ∧ H' = upd H T (.tup [p.1, p.2]) ∧ ∀ xs ys, SqT K H a xs → SqL K H b ys → xs[i]? = some p.1 ∧ ys[i]? = some p.2,
   fun i H => ∃ (xs ys : List V), (SqT K H a xs ∧ SqL K H b ys) ∧ (xs.length ≤ i ∨ ys.length ≤ i)⟩
structure ZpM (h : Heap) (z a b : Addr) (i : Nat) : Prop where
  zz : IsZip h (z + 4) (z + 2) (z + 3) .none
  ti : IsTupOf2 h (z + 2) (.ref z) (.ref (z + 1))
  to : ∃ x y, IsTupOf2 h (z + 3) x y
  it : h.IsTupleIter z a i
  il : h.IsListIter (z + 1) b i
theorem ZpM.keep {h h' : Heap} {z a b : Addr} {i : Nat} (q : ZpM h z a b i) (k : ∀ c ∈ [z + 4, z + 2, z + 3, z, z + 1], ∀ o, h.get? c = some o → h'.get? c = some o) : ZpM h' z a b i :=
  ⟨k _ (by simp) _ q.zz, k _ (by simp) _ q.ti, let ⟨x, y, e⟩ := q.to; ⟨x, y, k _ (by simp) _ e⟩, q.it.at fun o e => k _ (by simp) o e, q.il.at fun o e => k _ (by simp) o e⟩
local macro_rules | `(tactic| walk_at "nq") => `(tactic| (intro h; replace h : @Eq Nat _ _ := h; omega))
theorem sepM {z a b : Nat} (ha : a < z) (hb : b < z) : ZipSep2 (z + 4) (z + 2) (z + 3) z (z + 1) [z, a] [z + 1, b] := by
  have m1 : ∀ {u v w : Nat}, u ≠ v → u ≠ w → u ∉ ([v, w] : List Addr) := fun h h' z => by
    simp only [List.mem_cons, List.not_mem_nil, or_false] at z
    rcases z with z | z
    · exact h z
    · exact h' z
  exact ⟨by walk_at "nq", by walk_at "nq", by walk_at "nq", by walk_at "nq", by simp, m1 (by omega) (by omega), m1 (by omega) (by omega), by walk_at "nq", by simp, m1 (by omega) (by omega), m1 (by omega) (by omega), m1 (by omega) (by omega), m1 (by omega) (by omega)⟩
section
variable {prog : Program} {w : World} {A : Around}
/-- the turns from i on, of a tuple -/
theorem endsT (hh : A.handled = none) {it t : Addr} (hne : t ≠ it) (items : Array Value) (i : Nat) :
    ∃ n P St, Draws prog w A it [it, t] n P St ∧ i ≤ n ∧ (items.size ≤ i → i = n) ∧ ∀ h : Heap, h.IsTupleIter it t i → h.IsTuple t items → St i h := by
  by_cases c : items.size ≤ i
  · refine ⟨i, fun _ _ => True, fun j h => j = i ∧ h.IsTupleIter it t j ∧ h.IsTuple t items, ⟨fun _ _ st => let ⟨o, ho, _⟩ := st.2.1; ⟨o, ho⟩, fun _ _ _ st hk => ⟨st.1, st.2.1.at fun o e => hk it (by simp) o e, st.2.2.at fun o e => hk t (by simp) o e⟩, fun j s Q E hj st _ => absurd st.1 (by omega), fun s Q E st hE => wpAny_nextOf_tuple_end hh st.2.1 st.2.2 (by simp; omega) hE⟩, Nat.le_refl _, fun _ => rfl, fun h h1 h2 => ⟨rfl, h1, h2⟩⟩
  · exact ⟨_, _, _, Draws.tuple hh it t hne items, by omega, fun z => absurd z c, fun h h1 h2 => ⟨h1, h2⟩⟩
/-- the same of a list -/
theorem endsL (hh : A.handled = none) {it t : Addr} (hne : t ≠ it) (items : Array Value) (i : Nat) :
    ∃ n P St, Draws prog w A it [it, t] n P St ∧ i ≤ n ∧ (items.size ≤ i → i = n) ∧ ∀ h : Heap, h.IsListIter it t i → h.IsList t items → St i h := by
  by_cases c : items.size ≤ i
  · refine ⟨i, fun _ _ => True, fun j h => j = i ∧ h.IsListIter it t j ∧ h.IsList t items, ⟨fun _ _ st => let ⟨o, ho, _⟩ := st.2.1; ⟨o, ho⟩, fun _ _ _ st hk => ⟨st.1, st.2.1.at fun o e => hk it (by simp) o e, st.2.2.at fun o e => hk t (by simp) o e⟩, fun j s Q E hj st _ => absurd st.1 (by omega), fun s Q E st hE => wpAny_nextOf_list_end hh st.2.1 st.2.2 (by simp; omega) hE⟩, Nat.le_refl _, fun _ => rfl, fun h h1 h2 => ⟨rfl, h1, h2⟩⟩
  · exact ⟨_, _, _, Draws.list hh it t hne items, by omega, fun z => absurd z c, fun h h1 h2 => ⟨h1, h2⟩⟩
end
theorem turn_zipM {P : Program} {w : World} {K : PySem.W.Frag} {elts : List Expr} {kk : Nat} {tpos : Pos} {a b z : Nat} (ha : a < z) (hb : b < z) :
    Turn P w K (.Tuple elts kk tpos) (ItzM K a b) [z + 4, z + 2, z + 3, z, z + 1] (z + 4) (fun i h => ZpM h z a b i) where
  mem := by simp
  obj := fun i h st c hc => by
    obtain ⟨zz, ti, ⟨x, y, to⟩, ⟨o1, e1, _, d1⟩, ⟨o2, e2, _, d2⟩⟩ := st
    simp only [List.mem_cons, List.not_mem_nil, or_false] at hc
    rcases hc with rfl | rfl | rfl | rfl | rfl
    · exact ⟨_, zz, fun v q => nomatch q⟩
    · exact ⟨_, ti, fun v q => nomatch q⟩
    · exact ⟨_, to, fun v q => nomatch q⟩
    · exact ⟨o1, e1, fun v q => nomatch d1.symm.trans q⟩
    · exact ⟨o2, e2, fun v q => nomatch d2.symm.trans q⟩
  keep := fun i h h' st k => st.keep k
  item := by
    intro X hP hw hK hc i pins s σ H E I hf st ⟨xs, ys, ⟨x, y⟩, ⟨hqx, hqy⟩, hx, hy⟩
    subst hP hw hK
    obtain ⟨its, rv, p, _⟩ := I.tuple hqx
    obtain ⟨its2, rv2, p2, _⟩ := I.list hqy
    obtain ⟨u, hu, ru⟩ := rv.get hx
    obtain ⟨u2, hu2, ru2⟩ := rv2.get hy
    have hh : X.A.in1.in1.handled = none := I.ok.hd hc
    have S := sepM ha hb
    have D1 := Draws.tuple (prog := X.prog) (w := X.w) (A := X.A.in1) hh z a (Nat.ne_of_lt ha) its.toArray
    have D2 := Draws.list (prog := X.prog) (w := X.w) (A := X.A.in1) hh (z + 1) b (show b ≠ z + 1 by walk_at "nq") its2.toArray
    obtain ⟨zz, ti, ⟨x0, y0, to⟩, it, il⟩ := st
    have g1 : its.toArray[i]? = some u := by simpa using hu
    have g2 : its2.toArray[i]? = some u2 := by simpa using hu2
    have lz : z + 4 < s.heap.objs.size := Heap.lt_size zz
    refine wpAny_pyNext_zipD2_item S D1 D2 zz ti to ⟨it, p⟩ ⟨il, p2.isList⟩ (Array.getElem?_eq_some_iff.mp g1).1 (Array.getElem?_eq_some_iff.mp g2).1 fun x1 x2 h' tk y1 y2 b1 b2 d1 d2 b5 b6 hk => ?_
    obtain rfl : x1 = u := Option.some.inj (y1.symm.trans g1)
    obtain rfl : x2 = u2 := Option.some.inj (y2.symm.trans g2)
    refine ⟨_, rfl, wpAny_letOwnedTupleGo_zip (s := { s with heap := h', toks := tk }) b1 fun h'' b1' sb => ?_⟩
    have nT : s.heap.objs.size ≠ z + 4 := Nat.ne_of_gt lz
    have hT : IsTupOf2 h'' s.heap.objs.size x1 x2 := (sb.2 _ nT).trans b5
    have new : ObjOk X.prog X.w (upd H s.heap.objs.size (.tup [x, y])) h'' s.heap.objs.size (.tup [x, y]) := ⟨by show 2 ≤ sizeLine; decide, [x1, x2], .cons ru (.cons ru2 .nil), ⟨_, hT, rfl, _, rfl⟩⟩
    have I1 : Inv X pins σ (upd H s.heap.objs.size (.tup [x, y])) { s with heap := h'', toks := tk } :=
      I.turnedNew (ch := [z + 4, z + 2, z + 3, z, z + 1]) (fun c o hn q => (sb.2 c fun e => hn (by simp [e])).trans (hk c o (fun e => hn (by simp [e])) (fun e => hn (by simp [e])) (fun e => hn (by simp [e])) (fun e => hn (by simp [e])) q)) hf (Nat.le_refl _) new
    refine ⟨.ref s.heap.objs.size, _, I1, rfl, ⟨_, (x, y), rfl, I.hok.fresh (Nat.le_refl _), rfl, fun l m hl hm => ⟨by rw [I.tuple_inj hl hqx]; exact hx, by rw [I.list_inj hm hqy]; exact hy⟩⟩,
      ⟨b1', (sb.2 _ (by walk_at "nq")).trans (hk _ _ (by walk_at "nq") (by walk_at "nq") (by walk_at "nq") (by walk_at "nq") ti), ⟨x1, x2, (sb.2 _ (by walk_at "nq")).trans b2⟩, d1.1.at fun o q => (sb.2 _ (by walk_at "nq")).trans q, d2.1.at fun o q => (sb.2 _ (by walk_at "nq")).trans q⟩, fun c hcm => ?_⟩
    have hlt : @LT.lt Nat instLTNat c s.heap.objs.size := by
      simp only [List.mem_cons, List.not_mem_nil, or_false] at hcm
      rcases hcm with h | h | h | h | h <;> (replace h : @Eq Nat _ _ := h; omega)
    rw [upd_ne (Nat.ne_of_lt hlt)]
    exact (hf c hcm).1
  done := by
    intro X hP hw hK hc i pins s σ H E I hf st ⟨xs, ys, ⟨hqx, hqy⟩, hend⟩
    subst hP hw hK
    obtain ⟨its, rv, p, _⟩ := I.tuple hqx
    obtain ⟨its2, rv2, p2, _⟩ := I.list hqy
    have l1 := rv.length
    have l2 := rv2.length
    have hh : X.A.in1.in1.handled = none := I.ok.hd hc
    obtain ⟨zz, ti, ⟨x0, y0, to⟩, it, il⟩ := st
    obtain ⟨n1, P1, St1, D1, e1, f1, g1⟩ := endsT (prog := X.prog) (w := X.w) (A := X.A.in1) hh (Nat.ne_of_lt ha) its.toArray i
    obtain ⟨n2, P2, St2, D2, e2, f2, g2⟩ := endsL (prog := X.prog) (w := X.w) (A := X.A.in1) hh (show b ≠ z + 1 by walk_at "nq") its2.toArray i
    have he : i = n1 ∨ i = n2 := by
      rcases hend with q | q
      · exact .inl (f1 (by simp; omega))
      · exact .inr (f2 (by simp; omega))
    exact wpAny_pyNext_zipD2_end (sepM ha hb) D1 D2 zz ti to (g1 _ it p) (g2 _ il p2.isList) e1 e2 he fun h' tk hk => ⟨rfl, I.turnedL (t' := tk) (ch := [z + 4, z + 2, z + 3, z, z + 1]) (fun c o hn q => hk c o (fun e => hn (by simp [e])) (fun e => hn (by simp [e])) (fun e => hn (by simp [e])) (fun e => hn (by simp [e])) q) hf⟩
  self := fun A i s Q E st h => wpAny_pyIter_zip st.zz h
/-- a tuple and a list in zip -/
def iZipM (K : PySem.W.Frag) (ta : TA) : TI := fun σ H R => ta σ H fun vs H1 => ∃ a b xs ys, vs = [.ref a, .ref b] ∧ SqT K H1 a xs ∧ SqL K H1 b ys ∧ R (ItzM K a b) H1
section
variable {X : Cx} {e e2 : Expr} {p pos tpos : Pos} {elts : List Expr} {kk : Nat}
theorem pi_zipM {ta : TA} (hg : Gl X "zip") (hm : X.mg "zip" = none) (ha : PA X [e, e2] ta)
    (hs : starEach [e, e2] X.env = (false, eval e X.env) :: starEach [e2] X.env := by rfl) (hpl : (backTo pos (starEach [e2] X.env)).any (·.1) = false := by rfl) :
    PI X (.Tuple elts kk tpos) (.Call (.Name "zip" p) [e, e2] [] pos) (iZipM X.K ta) := by
  refine ⟨fun pins s σ H R I h => Call_ (ld_blt I hg hm boot_zip (callWith_type1 (thn (ha.run pos pins s σ H _ I h) fun us s1 ⟨vs, H1, I1, r1, q1⟩ => ?_) hs hpl))⟩
  obtain ⟨a, b, xs, ys, rfl, hqx, hqy, q⟩ := q1
  cases r1 with
  | cons r rr =>
    cases rr with
    | cons r' rr =>
      cases rr
      cases r
      cases r'
      obtain ⟨its, rv, p1, _⟩ := I1.tuple hqx
      obtain ⟨its2, rv2, p2, _⟩ := I1.list hqy
      obtain ⟨o1, ho1, _⟩ := id p1
      have lb := p2.lt
      refine zip_begins2 (begins_tuple a its.toArray) (begins_list b its2.toArray) p1 p2.isList fun h' zz ti to it il hsz hk => wpAny_pyIter_zip zz ?_
      exact ⟨s1.heap.objs.size + 4, _, _, _, H1, rfl, I1.kept (t' := s1.toks) hk, turn_zipM (Heap.lt_size ho1) lb, ⟨zz, ti, ⟨_, _, to⟩, ⟨_, it, rfl, rfl⟩, ⟨_, il, rfl, rfl⟩⟩, fun c hcm => by
        have hle : @LE.le Nat instLENat s1.heap.objs.size c := by
          simp only [List.mem_cons, List.not_mem_nil, or_false] at hcm
          rcases hcm with h | h | h | h | h <;> (replace h : @Eq Nat _ _ := h; omega)
        exact I1.fpOk hle (I1.hok.fresh hle), q⟩
def hZipM (t : TAh) : TIh := fun σ A R => t σ A fun ds A1 => match ds with
  | [.tup ds, .ptr l] => ∃ es, A1[l]? = some (.lst es) ∧ R (srcZ ds es fun A => A[l]? = some (.lst es)) A1
  | _ => False
theorem rj_zipM {K : PySem.W.Frag} {θ0 : List Addr} {H0 : Hp} {a b : Addr} {xs : List V} {l : Nat} {ds es : List D} (hs : SqT K H0 a xs) (r : RDs K θ0 H0 xs ds) (hl : θ0[l]? = some b) : RJ K θ0 H0 (ItzM K a b) (srcZ ds es fun A => A[l]? = some (.lst es)) := fun θ H A i e ra (lv : A[l]? = some (.lst es)) => by
  obtain ⟨t, rfl⟩ := e.pre
  have hl' : (θ0 ++ t)[l]? = some b := by rw [List.getElem?_append_left (List.getElem?_eq_some_iff.mp hl).1]; exact hl
  have hs' := SqT.stab hs e.stab
  have r' := r.ext e
  obtain ⟨ys, g', r2⟩ := ra.ok _ _ _ hl' lv
  have l1 := r.length
  have l2 := r2.length
  refine ⟨fun hi => ?_, fun hi => ⟨xs, ys, ⟨hs', SqL.of g'⟩, ?_⟩⟩
  · have hi' : i < min ds.length es.length := hi
    refine ⟨⟨xs, ys, (xs[i]'(by omega), ys[i]'(by omega)), ⟨hs', SqL.of g'⟩, List.getElem?_eq_getElem _, List.getElem?_eq_getElem _⟩, fun v H' y => ?_⟩
    obtain ⟨T, ⟨x, y⟩, rfl, hT, rfl, hxy⟩ := y
    obtain ⟨hx, hy⟩ := hxy xs ys hs' (SqL.of g')
    obtain ⟨d, h1, h2⟩ := r'.get' hx
    obtain ⟨d2, g1, g2⟩ := r2.get' hy
    obtain ⟨p1, p2, p3⟩ := new_pair ra hT h2 g2
    exact ⟨_, by show (match ds[i]?, es[i]? with | some d, some e => some (D.tup [d, e]) | _, _ => none) = _; rw [h1, g1], p1, p2, p3⟩
  · have hi' : min ds.length es.length ≤ i := hi
    omega
theorem pih_zipM {t : TAh} (hg : Gl X "zip") (hm : X.mg "zip" = none) (ha : PA X [e, e2] (liftA X.K t))
    (hs : starEach [e, e2] X.env = (false, eval e X.env) :: starEach [e2] X.env := by rfl) (hpl : (backTo pos (starEach [e2] X.env)).any (·.1) = false := by rfl) :
    PI X (.Tuple elts kk tpos) (.Call (.Name "zip" p) [e, e2] [] pos) (liftI X.K (hZipM t)) :=
  (pi_zipM hg hm ha hs hpl).imp fun σ H R ⟨θ, σh, A, Rh, rs, ra, w, k⟩ => ⟨θ, σh, A, _, rs, ra, w, fun θ1 H1 A1 vs ds e1 ra1 r1 w1 => by
    split at w1
    · obtain ⟨es, h1, q⟩ := w1
      obtain ⟨x, y, rfl, rx, ry⟩ := r1.two
      cases rx with
      | tup hs r =>
        cases ry with
        | ptr hj =>
          obtain ⟨ys, g', r'⟩ := ra1.ok _ _ _ hj h1
          exact ⟨_, _, _, _, rfl, hs, SqL.of g', k _ _ _ _ _ e1 ra1 (rj_zipM hs r hj) q⟩
    · exact w1.elim⟩
end
end Rp

/-! x or y, where x is None or a whole number. -/
namespace Rp
open PySem PySem.Spec PyProof.Rows L2
def hOrS (t u : TEh) : TEh := fun σ A Q => t σ A fun d A1 => match d with
  | .v .non => u σ A1 Q
  | .v (.int i) => Br (decide (i = 0)) (u σ A1 Q) (Q (.v (.int i)) A1)
  | _ => False
theorem ph_orS {X : Cx} {a b : Expr} {rest : List Expr} {pos : Pos} {t u : TEh} (ha : PE X a (lift X.K t)) (hb : PE X (.BoolOp .Or (b :: rest) pos) (lift X.K u)) : PE X (.BoolOp .Or (a :: b :: rest) pos) (lift X.K (hOrS t u)) :=
  (pe_orT ha hb).imp fun σ H Q ⟨θ, σh, A, Qh, rs, ra, w, k⟩ => ⟨θ, σh, A, _, rs, ra, w, fun θ1 H1 A1 v d e1 ra1 r1 w1 => by
    split at w1
    · cases r1
      exact ⟨false, rfl, ⟨θ1, σh, A1, _, rs.ext e1, ra1, w1, k.ext e1⟩⟩
    · rename_i i
      cases r1
      refine ⟨i != 0, rfl, ?_⟩
      by_cases c : i = 0
      · rw [if_neg (by simp [c])]
        exact ⟨θ1, σh, A1, _, rs.ext e1, ra1, w1.yes (decide_eq_true c), k.ext e1⟩
      · rw [if_pos (by simp [c])]
        exact (k.ext e1).here ra1 (.v _) (w1.no (decide_eq_false c))
    · exact w1.elim⟩
end Rp

/-! sorted of a list of whole numbers. -/
namespace Rp
open PySem PySem.Spec PyProof.Rows L2
def hSortI : List D → OH → KH → Prop
  | [.ptr k], A, Q => ∃ ns : List Int, A[k]? = some (.lst (dI ns)) ∧ ∀ ms : List Int, ms.Perm ns → ms.Pairwise (· ≤ ·) → NewQ A (.lst (dI ms)) Q
  | _, _, _ => False
theorem l_sortI {K : PySem.W.Frag} : LC K (rSortedI K) hSortI := by
  intro θ H A xs ds Q Qh r ra w k
  unfold hSortI at w
  split at w
  · obtain ⟨ns, h0, q⟩ := w
    obtain ⟨x, rfl, rx⟩ := r.one
    cases rx with
    | ptr hi =>
      obtain ⟨xs, g, r'⟩ := ra.ok _ _ _ hi h0
      have e : xs = ns.map V.int := RDs.of_scal V.int r'
      subst e
      exact ⟨_, ns, rfl, SqL.of g, fun ms p h1 h2 hp => k.lst ra (RDs.scal V.int _) (q ms h1 h2) hp⟩
  · exact w.elim
end Rp

/-! sorted(set(e)), e a tuple or a list of whole numbers, up to 4000 of them. -/
namespace Rp
open PySem PySem.Spec PyProof.Rows L2
section
variable {P : Program} {w : World} {A : Around} {E : Value → Shared → Prop} {s : Shared} {a : Addr}
/-- what sorted(set) leaves: a new list of the set's members in their order, all else as it was -/
def SortedOf (s : Shared) (S : Int → Bool) (n : Nat) (v : Value) (t : Shared) : Prop :=
  ∃ (p : Addr) (out : Array Value) (c : Nat) (ms : List Int), v = .ref p ∧ (∀ b o, s.heap.get? b = some o → t.heap.get? b = some o) ∧ t.gens = s.gens ∧ t.os = s.os ∧ s.heap.objs.size ≤ p ∧
    t.heap.get? p = some (seqObj "list" out c) ∧ IntsAre out.toList ms ∧ ms.Pairwise (· < ·) ∧ (∀ z, z ∈ ms ↔ S z = true) ∧ ms.length = n
theorem sorted_setA {S : Int → Bool} {n : Nat} {Q : Value → Shared → Prop} (R : SetR w s.heap a S n) (free : A.handled = none) (few : n ≤ 4000) (want : ∀ v t, SortedOf s S n v t → Q v t) :
    wpAny (model P w) A (call (.builtin "sorted") [.ref a]) Q E s := by
  obtain ⟨ob, ents, gen, tab, there, kind, data, keys, once, mem, bound, fits, count, ris, led⟩ := R
  have whole : ents.size ≤ 4000 := by rw [count]; exact few
  refine Calls.call_function_entry kind_sorted plain_sorted entry_sorted (args_sorted1 _) ?_
  have line : sizeLine = 16777216 := sizeLine_eq
  unfold Builtin.«sorted»
  have free1 : A.in1.in1.handled = none := by simp [free]
  refine wpAny_bind (m := checkCount "sorted" 1 1 _) (wpAny_pure ?_)
  have at_ : SetAt s.heap a ents gen tab := ⟨ob, there, kind.1, data⟩
  refine wpAny_bind (collect_set (A := A.in1) free at_ fits bound ris led fun s1 vals kept more gens1 os1 perm => ?_)
  have long : vals.length = n := by
    have q := perm.length_eq
    rw [List.length_map] at q
    rw [q, ← count]
    exact Array.length_toList
  have nums : IntsAre vals (vals.map SrtO.iv) := SrtO.ints_iv fun v hv => by
    obtain ⟨e, he, q⟩ := List.mem_map.mp (perm.mem_iff.mp hv)
    obtain ⟨k, tk, h1, _⟩ := keys e he
    exact ⟨k, tk, by rw [← q]; exact h1⟩
  have same : (vals.map SrtO.iv).Perm (ents.toList.map L2.keyOf) := by
    have q := perm.map SrtO.iv
    rw [List.map_map] at q
    have e : ents.toList.map (SrtO.iv ∘ fun x => x.2) = ents.toList.map L2.keyOf := List.map_congr_left fun x hx => by
      obtain ⟨k, tk, h1, _⟩ := keys x hx
      show SrtO.iv x.2 = L2.keyOf x
      unfold L2.keyOf
      rw [h1]
      rfl
    rw [← e]
    exact q
  refine wpAny_bind (wpAny_newList ?_ (by rw [long, line]; omega))
  have made : (s1.heap.push (seqObj "list" vals.toArray 0)).get? s1.heap.objs.size = some (seqObj "list" vals.toArray 0) := Heap.get?_push_size _ rfl
  have lens : vals.length ≤ sizeLine := by rw [long, line]; omega
  have is_list : Shared.TypeIs { s1 with heap := s1.heap.push (seqObj "list" vals.toArray 0) } (.ref s1.heap.objs.size) "list" := ⟨_, made, rfl⟩
  refine wpAny_bind (wpAny_holding ?_)
  refine wpAny_call_entry slot_list_sort is_list entry_list_sort ?_ (args_list_sort _)
  refine SrtO.list_sort_ord SrtO.swo_int made lens (fun h2 => SrtO.ints_sortable nums h2) fun out h1 h2 => ⟨.none, rfl, ?_⟩
  obtain ⟨k1, k2, k3⟩ := SrtO.ints_out nums h1 h2
  obtain ⟨c, hc⟩ := sortedHeap_at (vs := vals) (out := out.toArray) made
  have all := k2.trans same
  have strict : (out.map SrtO.iv).Pairwise (· < ·) := by
    have q : (out.map SrtO.iv).Pairwise (· ≠ ·) := all.nodup_iff.mpr once
    exact (k3.and q).imp fun {x y} h => by
      have h1 : x ≤ y := h.1
      have h2 : x ≠ y := h.2
      omega
  refine wpAny_pure ⟨_, rfl, want _ _ ⟨s1.heap.objs.size, out.toArray, c, out.map SrtO.iv, rfl, fun b u e => ?_, gens1, os1, more, hc, by simpa using k1, strict, fun z => ?_, ?_⟩⟩
  · have q := kept b u e
    have lt := Heap.lt_size q
    have ne : b ≠ s1.heap.objs.size := Nat.ne_of_lt lt
    have lt1 : b < (s1.heap.push (seqObj "list" vals.toArray 0)).objs.size := by rw [size_push']; exact Nat.lt_succ_of_lt lt
    have old := sortedHeap_old (vs := vals) (out := out.toArray) ne lt1
    exact old.trans (Heap.get?_push_of_some _ q)
  · rw [all.mem_iff]
    exact (mem z).symm
  · rw [all.length_eq, List.length_map, ← count]
    exact Array.length_toList
end
/-- sorted(set(..)) of a list or a tuple of whole numbers -/
def tSortSetA (K : PySem.W.Frag) (ta : TE) : TE := fun σ H Q => ta σ H fun x H1 => ∃ (l : Addr) (ns : List Int), x = .ref l ∧ (SqL K H1 l (ns.map V.int) ∨ SqT K H1 l (ns.map V.int)) ∧ ns.length ≤ 4000 ∧
  ∀ (ms : List Int) (p : Addr), H1 p = none → ms.Pairwise (· < ·) → (∀ z : Int, z ∈ ms ↔ z ∈ ns) → ms.length ≤ ns.length → Q (.ref p) (upd H1 p (.lst (ms.map V.int)))
theorem pe_sortSetA {X : Cx} {a : Expr} {ta : TE} {p p2 q pos : Pos} (hg : Gl X "sorted") (hm : X.mg "sorted" = none) (hg2 : Gl X "set") (hm2 : X.mg "set" = none) (ha : PE X a ta) (hc : X.calm = true := by rfl)
    (na : starEach [a] X.env = (false, eval a X.env) :: starEach [] X.env := by rfl) : PE X (.Call (.Name "sorted" p) [.Call (.Name "set" p2) [a] [] q] [] pos) (tSortSetA X.K ta) := by
  refine ⟨fun pins s σ H Q I h => ?_⟩
  refine Call_ (ld_blt I hg hm boot_sorted ?_)
  refine PyProof.Rows.callWith_builtin1 (PyProof.Rows.args_cons ?_ rfl) rfl rfl
  refine Call_ (ld_blt I hg2 hm2 boot_set ?_)
  refine PyProof.Rows.callWith_type1 (PyProof.Rows.args_cons (thn (ha.run pins s σ H _ I h) fun v s1 ⟨x, H1, I1, r1, q1⟩ => PyProof.Rows.args_nil ?_) na) na rfl
  obtain ⟨l, ns, rfl, hq, hl, k⟩ := q1
  cases r1
  have scan : ns.length + 1 < scanBound := by unfold scanBound; omega
  have both : ∀ (c : Nat) (h' : Heap) (tk : Nat), SetR X.w h' s1.heap.objs.size (fun j => decide (j ∈ ns)) c → c ≤ ns.length → (∀ b o, s1.heap.get? b = some o → h'.get? b = some o) →
      wpAny (model X.prog X.w) X.A (call (.builtin "sorted") [.ref s1.heap.objs.size]) (EP X pins σ Q) X.xe { s1 with heap := h', toks := tk } := by
    intro c h' tk R cn kp
    have I2 : Inv X pins σ H1 { s1 with heap := h', toks := tk } := I1.kept kp
    refine sorted_setA R (I2.ok.hd hc) (by omega) fun v t st => ?_
    obtain ⟨b, out, c2, ms, rfl, kp2, g, o, hp, hg, hi, hs, hm, hn⟩ := st
    have hlen : (ms.map V.int).length ≤ sizeLine := by rw [List.length_map, hn, sizeLine_eq]; omega
    have new_ : H1 b = none := I2.hok.fresh hp
    have J : Inv X pins σ (upd H1 b (.lst (ms.map V.int))) { ({ s1 with heap := h', toks := tk } : Shared) with heap := t.heap, gens := t.gens, drawn := t.drawn, toks := t.toks } :=
      I2.call (ch := []) (Un.laid kp2 hp new_) (I2.hok.laid kp2 hp ⟨hlen, out.toList, c2, vals_of_ints hi, hg⟩) (by rw [g]; exact I2.bare) (fun _ z => nomatch z)
    have e : t = { ({ s1 with heap := h', toks := tk } : Shared) with heap := t.heap, gens := t.gens, drawn := t.drawn, toks := t.toks } := by
      obtain ⟨a1, a2, a3, a4, a5⟩ := t
      cases o
      rfl
    rw [e]
    exact ⟨.ref b, _, J, rfl, k ms b new_ hs (fun z => by rw [hm z]; simp) (by omega)⟩
  rcases hq with hq | hq
  · obtain ⟨its, r, pl, hz⟩ := I1.list hq
    refine set_list ns (I1.ok.hd hc) pl.isList (by simpa using RZ.intsAre_vals r) scan fun s2 ⟨h', tk, c, e2, R, hc2, kp⟩ => ?_
    subst e2
    exact PyProof.Rows.args_nil (both c h' tk R hc2 kp)
  · obtain ⟨its, r, pl, hz⟩ := I1.tuple hq
    refine call_set_tupI ns (I1.ok.hd hc) pl (by simpa using RZ.intsAre_vals r) scan fun h' tk c R hc2 kp => ?_
    exact PyProof.Rows.args_nil (both c h' tk R hc2 kp)
def hSortSetA (te : TEh) : TEh := fun σ A Q => te σ A fun d A1 => ∃ ns : List Int, ((∃ k, d = .ptr k ∧ A1[k]? = some (.lst (dI ns))) ∨ d = .tup (dI ns)) ∧ ns.length ≤ 4000 ∧
  ∀ ms : List Int, ms.Pairwise (· < ·) → (∀ z : Int, z ∈ ms ↔ z ∈ ns) → ms.length ≤ ns.length → NewQ A1 (.lst (dI ms)) Q
theorem ph_sortSetA {X : Cx} {a : Expr} {te : TEh} {p p2 q pos : Pos} (hg : Gl X "sorted") (hm : X.mg "sorted" = none) (hg2 : Gl X "set") (hm2 : X.mg "set" = none) (ha : PE X a (lift X.K te)) (hc : X.calm = true := by rfl)
    (na : starEach [a] X.env = (false, eval a X.env) :: starEach [] X.env := by rfl) : PE X (.Call (.Name "sorted" p) [.Call (.Name "set" p2) [a] [] q] [] pos) (lift X.K (hSortSetA te)) := by
  refine (pe_sortSetA hg hm hg2 hm2 ha hc na).imp ?_
  rintro σ H Q ⟨θ, σh, A, Qh, rs, ra, w, k⟩
  refine ⟨θ, σh, A, _, rs, ra, w, fun θ1 H1 A1 v d e1 ra1 r1 w1 => ?_⟩
  obtain ⟨ns, hd, few, w1⟩ := w1
  rcases hd with ⟨k0, rfl, h0⟩ | rfl
  · cases r1 with
    | ptr hi =>
      obtain ⟨xs, g, r'⟩ := ra1.ok _ _ _ hi h0
      have e : xs = ns.map V.int := RDs.of_scal V.int r'
      subst e
      exact ⟨_, ns, rfl, .inl (SqL.of g), few, fun ms b hb hs hm hl2 => (k.ext e1).lst ra1 (RDs.scal V.int _) (w1 ms hs hm hl2) hb⟩
  · cases r1 with
    | tup hq r' =>
      rename_i xs
      have e : xs = ns.map V.int := RDs.of_scal V.int r'
      subst e
      exact ⟨_, ns, rfl, .inr hq, few, fun ms b hb hs hm hl2 => (k.ext e1).lst ra1 (RDs.scal V.int _) (w1 ms hs hm hl2) hb⟩
end Rp

/-! {} and d.get(k, x), over data. -/
namespace Rp
open PySem PySem.Spec PyProof.Rows L2
section
variable {K : PySem.W.Frag} {θ : List Addr} {H : Hp} {A : OH} {Q : VK} {Qh : KH} {p : Addr}
theorem Kt.dK0 (k : Kt K θ H Q Qh) (ra : RA K θ H A) (h : NewQ A (.dK []) Qh) (hp : H p = none) : Q (.ref p) (upd H p (.dK [])) := by
  have old : Same H (upd H p (.dK [])) := fun b u e => by rw [upd_ne (ne_of_none e hp)]; exact e
  have at_ : (θ ++ [p])[A.length]? = some p := by rw [← ra.len]; simp
  exact k (θ ++ [p]) _ (A ++ [.dK []]) _ (.ptr A.length) (.add hp old) (ra.add (o := .dK []) hp old ⟨[], upd_same, .nil⟩) (.ptr at_) (h _ _ ⟨rfl, rfl⟩)
theorem RF.noD : ∀ {xs : List (Key × V)} {kvs : List (Key × D)} {k : Key}, RF K θ H xs kvs → Rp.valD kvs k = none → valV xs k = none
  | _, _, _, .nil, _ => rfl
  | _, _, k, .cons (n := n) (x := x) (d := e) (xs := xs) (ds := ds) r t, h => by
    by_cases c : n = k
    · have e1 : Rp.valD ((n, e) :: ds) k = some e := by unfold Rp.valD; rw [List.find?_cons, decide_eq_true c]; rfl
      rw [e1] at h
      cases h
    · have e1 : Rp.valD ((n, e) :: ds) k = Rp.valD ds k := by unfold Rp.valD; rw [List.find?_cons, decide_eq_false c]
      rw [e1] at h
      rw [valV_neg (p := (n, x)) c]
      exact RF.noD t h
end
section
variable {X : Cx} {o e f : Expr} {pos apos cpos : Pos} {to te tf : TEh}
def hDNew : TEh := fun _ A Q => NewQ A (.dK []) Q
theorem ph_dnew : PE X (.Dict [] [] pos) (lift X.K hDNew) :=
  pe_dnewK.imp fun σ H Q ⟨θ, σh, A, Qh, rs, ra, w, k⟩ p hp => k.dK0 ra w hp
/-- d.get(k, x) -/
def hDGet2 (to te tf : TEh) : TEh := fun σ A Q => to σ A fun d A1 => (∃ i kvs, d = .ptr i ∧ A1[i]? = some (.dK kvs)) ∧ te σ A1 fun y A2 => tf σ A2 fun z A3 => ∃ i kvs k, d = .ptr i ∧ A3[i]? = some (.dK kvs) ∧ keyOf y = some k ∧ Q ((valD kvs k).getD z) A3
theorem ph_dget2 (hu : X.A.units + 64 < cLine) (ho : PE X o (lift X.K to)) (he : PE X e (lift X.K te)) (hf : PE X f (lift X.K tf)) (m : M2 X o "get" apos e f cpos) : PE X (.Call (.Attribute o "get" apos) [e, f] [] cpos) (lift X.K (hDGet2 to te tf)) :=
  (pe_dget2 (by omega) ho he hf m).imp fun σ H Q ⟨θ, σh, A, Qh, rs, ra, w, k⟩ => ⟨θ, σh, A, _, rs, ra, w, fun θ1 H1 A1 x dx e1 ra1 r1 w1 => by
    obtain ⟨⟨i, kvs, rfl, h0⟩, w1⟩ := w1
    have r0 := r1
    cases r1 with
    | ptr hi =>
      rename_i ad
      obtain ⟨xs, g, rf⟩ := ra1.ok _ _ _ hi h0
      refine ⟨_, rfl, .inl ⟨xs, .inl g⟩, θ1, σh, A1, _, rs.ext e1, ra1, w1, fun θ2 H2 A2 y dy e2 ra2 r2 w2 => ?_⟩
      refine ⟨θ2, σh, A2, _, (rs.ext e1).ext e2, ra2, w2, fun θ3 H3 A3 z dz e3 ra3 r3 w3 => ?_⟩
      obtain ⟨i', kvs', kk, di, h1, hk, q⟩ := w3
      cases di
      have hi3 : θ3[i]? = some ad := by
        have q3 := r0.ext (e2.trans e3)
        cases q3 with
        | ptr hi3 => exact hi3
      obtain ⟨xs', g', rf'⟩ := ra3.ok _ _ _ hi3 h1
      rw [keyOf_ok (r2.ext e3) hk]
      have kx := ((k.ext e1).ext e2).ext e3
      cases hv : valD kvs' kk with
      | some d =>
        obtain ⟨v, hv', rv⟩ := rf'.valD hv
        rw [hv] at q
        refine ⟨_, DGet.k g', ?_⟩
        rw [hv']
        exact kx.here ra3 rv q
      | none =>
        rw [hv] at q
        refine ⟨_, DGet.k g', ?_⟩
        rw [rf'.noD hv]
        exact kx.here ra3 r3 q⟩
end
end Rp

/-! repr of tuples (within tuples) of small things, {} among them. -/
namespace Rp
open PySem PySem.Spec PyProof.Rows L2
mutual
inductive DpT (K : PySem.W.Frag) (H : Hp) : V → PyData → Prop
  | non : DpT K H .non .none
  | bl (b : Bool) : DpT K H (.bl b) (.bool b)
  | int (i : Int) : DpT K H (.int i) (.int i)
  | str (x : Str) : DpT K H (.str x) (.str x)
  | tup {a : Addr} {xs : List V} {ps : List PyData} (h : SqT K H a xs) (r : DpTs K H xs ps) : DpT K H (.ref a) (.tuple ps)
  | dct {a : Addr} (h : H a = some (.dK [])) : DpT K H (.ref a) (.dict [])
inductive DpTs (K : PySem.W.Frag) (H : Hp) : List V → List PyData → Prop
  | nil : DpTs K H [] []
  | cons {x : V} {p : PyData} {xs : List V} {ps : List PyData} (h : DpT K H x p) (t : DpTs K H xs ps) : DpTs K H (x :: xs) (p :: ps)
end
section
variable {X : Cx} {pins : List (Addr × Obj)} {σ : L2.St} {H : Hp} {s : Shared}
theorem reads_dnil (I : Inv X pins σ H s) {a : Addr} (ha : H a = some (.dK [])) : Reads s.heap (.ref a) (.dict []) [a] ∧ a ≠ sysModules := by
  obtain ⟨_, hne, vs, rel, dd⟩ := I.hok a _ ha
  cases rel
  refine ⟨PyProof.V.reads_dictOf (enc := fun k : Key => match k with | .inl i => PyData.int i | .inr x => PyData.str x) (fun k key hk => ?_) dd .nil, fun z => ?_⟩
  · rcases keyIs_shape hk with ⟨i, t, rfl, rfl⟩ | ⟨x, t, rfl, rfl⟩
    · exact .int _ _
    · exact .str _ _
  · rw [z] at hne
    simp at hne
mutual
theorem DpT.reads (I : Inv X pins σ H s) : ∀ {x : V} {p : PyData} {u : Value}, DpT X.K H x p → RelV x u → ∃ as, Reads s.heap u p as ∧ sysModules ∉ as
  | _, _, _, .non, r => by cases r; exact ⟨_, .none, fun z => nomatch z⟩
  | _, _, _, .bl b, r => by cases r; exact ⟨_, .bool b, fun z => nomatch z⟩
  | _, _, _, .int i, r => by obtain ⟨t, rfl⟩ := r; exact ⟨_, .int i t, fun z => nomatch z⟩
  | _, _, _, .str x, r => by obtain ⟨t, rfl⟩ := r; exact ⟨_, .str x t, fun z => nomatch z⟩
  | _, _, _, .tup h h2, r => by
    cases r
    obtain ⟨its, rv, ht, _⟩ := I.tuple h
    obtain ⟨o, h1, hc, n, hd⟩ := id ht
    obtain ⟨as, ra, na⟩ := DpTs.reads I h2 rv
    exact ⟨as, .tuple h1 hc hd (by simpa using ra), na⟩
  | _, _, _, .dct h, r => by
    cases r
    obtain ⟨rd, ne⟩ := reads_dnil I h
    exact ⟨_, rd, fun z => ne (List.mem_singleton.mp z).symm⟩
theorem DpTs.reads (I : Inv X pins σ H s) : ∀ {xs : List V} {ps : List PyData} {us : List Value}, DpTs X.K H xs ps → Vals xs us → ∃ as, ReadsAll s.heap us ps as ∧ sysModules ∉ as
  | _, _, _, .nil, r => by cases r; exact ⟨_, .nil, fun z => nomatch z⟩
  | _, _, _, .cons h t, r => by
    cases r with
    | cons rx rs =>
      obtain ⟨a1, r1, n1⟩ := DpT.reads I h rx
      obtain ⟨a2, r2, n2⟩ := DpTs.reads I t rs
      exact ⟨_, .cons r1 r2, fun z => by rcases List.mem_append.mp z with z | z; exact n1 z; exact n2 z⟩
end
/-- what may be shown, dicts among it -/
structure ShwE (d : PyData) : Prop where
  sh : d.showable = true
  dp : d.depth ≤ 16
  sz : d.shown.length ≤ sizeLine
theorem call_reprE (gA : X.A.guards = some []) (hu : X.A.units + 64 < cLine) : CallR X (.builtin "repr") (fun xs H Q => ∃ x d, xs = [x] ∧ ((Dp X.K H x d ∧ Shw d) ∨ (DpT X.K H x d ∧ ShwE d)) ∧ Q (.str d.shown) H) := by
  intro pins s σ H xs us Q I r h
  obtain ⟨x, d, rfl, h | ⟨hd, hw⟩, q⟩ := h
  · exact call_reprD gA hu pins s σ H _ us Q I r ⟨x, d, rfl, h.1, h.2, q⟩
  cases r with
  | cons rx rn =>
    cases rn
    have dp := hw.dp
    cases hd with
    | non => cases rx; exact PySem.P.repr_of_none ⟨.str _, H, I.tok _, ⟨_, rfl⟩, q⟩
    | bl b => cases rx; exact PySem.P.repr_of_bool ⟨.str _, H, I.tok _, ⟨_, rfl⟩, q⟩
    | int i =>
      obtain ⟨t, rfl⟩ := rx
      exact PySem.P.repr_of_int (by have := hw.sh; simpa [PyData.showable] using this) ⟨.str _, H, I.tok _, ⟨_, rfl⟩, q⟩
    | str z =>
      obtain ⟨t, rfl⟩ := rx
      exact PySem.P.repr_of_str ⟨.str _, H, I.tok _, ⟨_, rfl⟩, q⟩ hw.sz
    | @tup a xs ds h1 h2 =>
      obtain ⟨as, rd, na⟩ := DpT.reads I (.tup h1 h2) rx
      cases rx
      exact repr_of_reads' rd hw.sh (fun _ => na) gA (by omega) (fun _ _ z => z) (fun h' u tk kp => ⟨.str _, H, I.kept kp, ⟨_, rfl⟩, q⟩) hw.sz
    | @dct a h1 =>
      obtain ⟨as, rd, na⟩ := DpT.reads I (.dct h1) rx
      cases rx
      exact repr_of_reads' rd hw.sh (fun _ => na) gA (by omega) (fun _ _ z => z) (fun h' u tk kp => ⟨.str _, H, I.kept kp, ⟨_, rfl⟩, q⟩) hw.sz
end
/-! ### over data -/
mutual
inductive DT (A : OH) : D → PyData → Prop
  | non : DT A (.v .non) .none
  | bl (b : Bool) : DT A (.v (.bl b)) (.bool b)
  | int (i : Int) : DT A (.v (.int i)) (.int i)
  | str (x : Str) : DT A (.v (.str x)) (.str x)
  | tup {ds : List D} {ps : List PyData} (h : DTs A ds ps) : DT A (.tup ds) (.tuple ps)
  | dct {k : Nat} (h0 : A[k]? = some (.dK [])) : DT A (.ptr k) (.dict [])
inductive DTs (A : OH) : List D → List PyData → Prop
  | nil : DTs A [] []
  | cons {d : D} {p : PyData} {ds : List D} {ps : List PyData} (h : DT A d p) (t : DTs A ds ps) : DTs A (d :: ds) (p :: ps)
end
mutual
theorem DT.dp {K : PySem.W.Frag} {θ : List Addr} {H : Hp} {A : OH} (ra : RA K θ H A) : ∀ {d : D} {p : PyData} {v : V}, DT A d p → RD K θ H v d → DpT K H v p
  | _, _, _, .non, r => by cases r; exact .non
  | _, _, _, .bl b, r => by cases r; exact .bl b
  | _, _, _, .int i, r => by cases r; exact .int i
  | _, _, _, .str x, r => by cases r; exact .str x
  | _, _, _, .tup h, r => by
    cases r with
    | tup hs r => exact .tup hs (DTs.dp ra h r)
  | _, _, _, .dct h0, r => by
    cases r with
    | ptr hi =>
      obtain ⟨kvs, g, r'⟩ := ra.ok _ _ _ hi h0
      cases r'
      exact .dct g
theorem DTs.dp {K : PySem.W.Frag} {θ : List Addr} {H : Hp} {A : OH} (ra : RA K θ H A) : ∀ {d : List D} {p : List PyData} {v : List V}, DTs A d p → RDs K θ H v d → DpTs K H v p
  | _, _, _, .nil, r => by cases r; exact .nil
  | _, _, _, .cons h t, r => by
    cases r with
    | cons r1 r2 => exact .cons (DT.dp ra h r1) (DTs.dp ra t r2)
end
/-- the text that repr tells of d -/
def ShwD (A : OH) (d : D) (p : PyData) : Prop := (DP A d p ∧ Shw p) ∨ (DT A d p ∧ ShwE p)
def hReprE : List D → OH → KH → Prop
  | [d], A, Q => ∃ p, ShwD A d p ∧ Q (.v (.str p.shown)) A
  | _, _, _ => False
theorem l_reprE {K : PySem.W.Frag} : LC K (fun xs H Q => ∃ x d, xs = [x] ∧ ((Dp K H x d ∧ Shw d) ∨ (DpT K H x d ∧ ShwE d)) ∧ Q (.str d.shown) H) hReprE := by
  intro θ H A xs ds Q Qh r ra w k
  unfold hReprE at w
  split at w
  · obtain ⟨p, h, w⟩ := w
    obtain ⟨x, rfl, rx⟩ := r.one
    refine ⟨x, p, rfl, ?_, k.here ra (.v _) w⟩
    rcases h with ⟨h1, h2⟩ | ⟨h1, h2⟩
    · exact .inl ⟨h1.dp ra rx, h2⟩
    · exact .inr ⟨h1.dp ra rx, h2⟩
  · exact w.elim
end Rp

/-! A def with live defs within, that shows data (repr). -/
namespace Rp
open PySem PySem.Spec PyProof.Rows L2
section
variable {P : Program} {w : World} {K : PySem.W.Frag} {mg : Str → Option Value} {base : Heap} {CX : CXT}
theorem fnG_ofC {x qual : Str} {st : Stmt} {f : Addr} {fd : FuncData} {N ps : List Str} {k : Nat} {sp : Sp} (F : Fun K x qual st f fd) (S : FnScope N ps (defScope st)) (len : ∀ vs H Q E, sp vs H Q E → vs.length = ps.length)
    (hb : ∀ (cdv : Value) (A : Around) (outer : List Env) (s : Shared) (H : Hp) (vs : List V) (Q : VK) (E : XK), fd.code = cdv → (A.deeper (envOfC qual (defScope st) s.heap.objs.size f cdv)).guards = some [] → Room k (A.deeper (envOfC qual (defScope st) s.heap.objs.size f cdv)) → sp vs H Q E →
      ∃ t, PSs (cxOf CX P w K mg base N qual (defScope st) f cdv A outer s H E) (defBody st) t ∧ t { nx := fun _ H' => Q .non H', rt := Q } (start N vs) H) : FnG P w K mg base CX (k + 1) f fd ps sp := by
  obtain ⟨oc, od, kV, doc, pm, an, cdv, ct, osl, rfl, lk, hcd⟩ := F.ex
  refine ⟨len, fun A outer s H args us vs Q E gA room en bi rel want => ?_⟩
  have kept : ∀ b o, base.get? b = some o → s.heap.get? b = some o := fun b o e => (en.bs b o e).1
  have inK : K.In s.heap := en.mod.kin.keeps kept
  refine codeAny_call_function room.depth (inK _ _ lk) rfl S.co S.gen rfl (PySem.W.codeRec_of inK hcd) (bi _ _ _ _ ?_)
  refine wpAny_newFunctionEnv_cells S.kind (fun y hy => ?_) fun env he s1 made => ?_
  · rcases S.par y.1 (List.of_mem_zip (show (y.1, y.2) ∈ ps.zip us from hy)).1 with q | q
    · exact .inl q
    · exact .inr ⟨q, PySem.W.cellsFrom_some _ _ _ (.inl q)⟩
  subst he
  refine ⟨(en.mod.nolimit.keeps kept).keeps made.toInCall.keep, codeAny_func ?_⟩
  obtain ⟨t, body, reads⟩ := hb cdv A outer s H vs Q E rfl (deeper_guards gA) (room.deeper _) want
  refine wpAny_mono (body.run [] s1 (start N vs) H _ (inv_start S room.hd en (len _ _ _ _ want) rel made) reads) (fun fl s' hs => ?_) fun e s' hs => hs
  cases fl with
  | ret u =>
    obtain ⟨v, σ', H', J, rv, q⟩ := hs
    exact ⟨v, H', J.os, J.bare, J.base, J.hok, rv, q⟩
  | next =>
    obtain ⟨σ', H', J, q⟩ := hs
    exact ⟨V.non, H', J.os, J.bare, J.base, J.hok, rfl, q⟩
  | brk => exact absurd hs (fun ⟨_, _, _, z⟩ => (z : False))
  | cont => exact absurd hs (fun ⟨_, _, _, z⟩ => (z : False))
theorem okGHc {x qual : Str} {st : Stmt} {f : Addr} {fd : FuncData} {N ps : List Str} {k : Nat} {sp : Sph} (F : Fun K x qual st f fd) (S : FnScope N ps (defScope st))
    (hb : ∀ (cdv : Value) (A : Around) (outer : List Env) (s : Shared) (H : Hp) (E : XK), fd.code = cdv → (A.deeper (envOfC qual (defScope st) s.heap.objs.size f cdv)).guards = some [] → Room k (A.deeper (envOfC qual (defScope st) s.heap.objs.size f cdv)) →
      ∃ t, PSs (cxOf CX0 P w K mg base N qual (defScope st) f cdv A outer s H E).nox (defBody st) (liftS K t) ∧ ∀ ds A Q, sp ds A Q → t (endH Q) (startH N.length ds) A) : FnG P w K mg base CX0 (k + 1) f fd ps (spOf K ps.length sp) :=
  fnG_ofC F S (fun vs H Q E h => h.1) fun cdv A outer s H vs Q E he gA room h => by
    obtain ⟨t, body, go⟩ := hb cdv A outer s H E he gA room
    exact ⟨_, body.nox, body_h h go⟩
end
end Rp

/-! Texts over data: str(x) and {x} by an own __str__, str of a whole number, f"..", gcd. -/
namespace Rp
open PySem PySem.Spec PyProof.Rows L2
open PySem.W PySem.Builtin PySem.Builtin.Str in
theorem str_own {prog : Program} {w : World} {A : Around} {E : Value → Shared → Prop} {s : Shared} {K : Frag} {x C f : Addr} {ox : Obj} {od : Option Obj} {Q : Value → Shared → Prop} (hu : A.in1.in1.units < cLine) (X : K.In s.heap) (I : InstAt s.heap x ox C od) (hs : findIn K (.ref C) "__str__" = some (some (.ref f))) (hf : isFn K (.ref f) = true)
    (h : wpAny (model prog w) A.in1.in1 (call (.ref f) [.ref x]) (StrBack Q) E s) : wpAny (model prog w) A (call (.type "str") [.ref x]) Q E s := by
  refine callType_codes (T := "str") (Bi := Builtin.«object.__init__») (Q₁ := fun r s₁ => ∃ y u, r = .str y u ∧ Q r s₁) PySem.F.called_str (PySem.F.typeCall_str_1 _) PySem.F.entry_object_init ?_ ?_
  · refine codeAny_of_tree ?_
    show wpAny _ A.in1.in1 (do checkBuiltinCall "str.__new__" ⟨[.type "str", .ref x], []⟩; again (.builtin "str.__new__" ⟨[.type "str", .ref x], []⟩)) _ _ s
    refine wpAny_bind (wpAny_of_eq (PySem.F.newCall_str_1 _) (wpAny_pure ⟨plainId_quiet (by decide +kernel) _, codeAny_builtin PySem.F.entry_str_new ?_⟩))
    rw [Around.under_plainId (by decide +kernel) _]
    rw [str_new_tree]
    refine wpAny_bind (wpAny_pure ?_)
    refine wpAny_bind (wpAny_of_eq isSubtype_str_str ?_)
    have key : wpAny (model prog w) A.in1.in1 (PySem.Builtin.Str.strOf (.ref x)) (fun r s₁ => ∃ y u, r = .str y u ∧ Q r s₁) E s := by
      unfold PySem.Builtin.Str.strOf
      rw [show isExactStr (.ref x) = false from rfl]
      refine wpAny_bind (m := cRoomFor _ _) (wpAny_cRoomFor hu ?_)
      refine wpAny_bind (m := callSpecial? (.ref x) (Str.ofString "__str__")) (special_fn X I hs (beq_iff_eq.mp hf) (wpAny_mono h (fun r s' z => ?_) fun _ _ y => y))
      cases r <;> first | exact z.elim | exact wpAny_pure ⟨_, _, rfl, z⟩
    exact wpAny_bind (wpAny_mono key (fun r s₁ hr => wpAny_pure hr) fun _ _ y => y)
  · rintro obj s₁ ⟨y, u, rfl, hq⟩
    exact ⟨typeIs_str _ _ _, PySem.F.args_object_init_2 _ _, object_init_meets PySem.F.called_str.init.lookup PySem.F.called_str.made (by decide) prog w A.in1 _ s₁ ⟨typeIs_str _ _ _, rfl, hq⟩⟩
/-! ### {x}, x with an own __str__; str of data -/
section
variable {X : Cx} {CX : CXT} {k : Nat} {f C : Addr} {fd : FuncData} {ps : List Str} {sp : Sp} {E : XK}
/-- {x} of an instance -/
def tFmtI (C : Addr) (sp : Sp) (E : XK) (te : TE) : TE := fun σ H Q => te σ H fun x H1 => ∃ (a dx : Addr) (fs : List (Str × V)), x = .ref a ∧ H1 a = some (.ins C dx fs) ∧ sp [.ref a] H1 (fun v H' => ∃ t : Str, v = .str t ∧ Q (.str t) H') E
theorem pe_fmtI {e : Expr} {te : TE} {pos : Pos} (F : FnOk X.prog X.w X.K X.mg X.base CX k f fd ps sp) (hs : PySem.W.findIn X.K (.ref C) "__str__" = some (some (.ref f))) (hf : PySem.W.isFn X.K (.ref f) = true) (hfm : PySem.W.findIn X.K (.ref C) "__format__" = some (some (.builtin "object.__format__"))) (hm : PySem.W.mroIn X.K C (.type "object") = some true)
    (hb : L2.Binds X.K fd ps []) (hx : Passes CX X E) (hr : Room (k + 1) X.A) (he : PE X e te) : PE X (.FormattedValue e (-1) none pos) (tFmtI C sp E te) := by
  refine ⟨fun pins s σ H Q I h => ?_⟩
  refine wpAny_FormattedValue_plain (thn (he.run pins s σ H _ I h) fun v s1 hv => ?_)
  obtain ⟨x, H1, I1, r1, a, dx, fs, rfl, ha, hsp⟩ := hv
  cases r1
  obtain ⟨mA, J, _⟩ := ins_get I1.hok ha
  obtain ⟨od, J, _⟩ := J.look
  have un := hr.un
  have hl := F.len _ _ _ _ hsp
  have I2 : Inv X pins σ H1 { s1 with toks := s1.toks + 1 } := I1.tok _
  refine PySem.W.kfo_fieldS (by show X.A.units + 1 < _; omega) I1.kIn J hfm hm hs hf (wpAny_call (codeAny_mono (F.run X.A.in1 X.stack { s1 with toks := s1.toks + 1 } H1 ⟨[.ref a], []⟩ [.ref a] [.ref a] _ E hr.in1 (by
    have e := I2.env0
    exact ⟨e.frames, e.mod, e.bs, e.bsz, e.funs, e.frf, e.hok, e.bare⟩) (by
    have := hb { s1 with toks := s1.toks + 1 } [.ref a] I2.kIn (by simpa using hl)
    simpa using this) (.cons rfl .nil) hsp) fun r s' hq => ?_))
  cases r with
  | error e => exact hx pins σ H1 { s1 with toks := s1.toks + 1 } e s' I2 hq
  | ok fl =>
    cases fl with
    | ret w =>
      obtain ⟨z, H', I', rz, t, ez, q⟩ := I2.after hq
      subst ez
      obtain ⟨tk, rfl⟩ := rz
      exact ⟨.str t, H', I', ⟨_, rfl⟩, q⟩
    | next => exact False.elim hq
    | brk => exact False.elim hq
    | cont => exact False.elim hq
/-- str(x) of small data -/
theorem call_strD (gA : X.A.guards = some []) (hu : X.A.units + 64 < cLine) : CallR X (.type "str") (fun xs H Q => ∃ a d, xs = [.ref a] ∧ Dp X.K H (.ref a) d ∧ Shw d ∧ Q (.str d.shown) H) := by
  intro pins s σ H xs us Q I r h
  obtain ⟨a, d, rfl, hd, hw, q⟩ := h
  cases r with
  | cons rx rn =>
    cases rn
    have dp := hw.dp
    obtain ⟨as, rd⟩ := Dp.reads I d (.ref a) _ hd rx
    cases rx
    exact str_of_reads rd hw.sh (PyData.noDict_hsm hw.nd) gA (by omega) (fun _ _ z => z) (fun h' u tk kp => ⟨.str _, H, I.kept kp, ⟨_, rfl⟩, q⟩) hw.sz
def rStrI (C : Addr) (sp : Sp) (E : XK) : List V → Hp → VK → Prop := fun xs H Q => ∃ (a dx : Addr) (fs : List (Str × V)), xs = [.ref a] ∧ H a = some (.ins C dx fs) ∧ sp [.ref a] H (fun v H' => ∃ t : Str, v = .str t ∧ Q (.str t) H') E
theorem call_strI (F : FnOk X.prog X.w X.K X.mg X.base CX k f fd ps sp) (hs : PySem.W.findIn X.K (.ref C) "__str__" = some (some (.ref f))) (hf : PySem.W.isFn X.K (.ref f) = true) (hb : L2.Binds X.K fd ps []) (hx : Passes CX X E) (hr : Room (k + 2) X.A) :
    CallR X (.type "str") (rStrI C sp E) := by
  intro pins s σ H vs us Q I r h
  obtain ⟨a, dx, fs, rfl, ha, hsp⟩ := h
  cases r with
  | cons r1 rr =>
    cases rr
    cases r1
    obtain ⟨mA, J, _⟩ := ins_get I.hok ha
    obtain ⟨od, J, _⟩ := J.look
    have e0 : Env0 X.prog X.w X.K X.mg X.base X.A.in1.in1 X.stack s H := by
      have e := I.env0
      exact ⟨e.frames, e.mod, e.bs, e.bsz, e.funs, e.frf, e.hok, e.bare⟩
    have hl := F.len _ _ _ _ hsp
    have un := hr.un
    refine str_own (by show X.A.units + 1 + 1 < _; omega) I.kIn J hs hf (wpAny_call (codeAny_mono (F.run X.A.in1.in1 X.stack s H ⟨[.ref a], []⟩ [.ref a] [.ref a] _ E hr.in1.in1 e0 (by
      have := hb s [.ref a] I.kIn (by simpa using hl)
      simpa using this) (.cons rfl .nil) hsp) fun r s' hq => ?_))
    cases r with
    | error e => exact hx pins σ H s e s' I hq
    | ok fl =>
      cases fl with
      | ret w =>
        obtain ⟨z, H', I', rz, t, ez, q⟩ := I.after hq
        subst ez
        obtain ⟨tk, rfl⟩ := rz
        show PySem.W.StrBack _ _ _
        exact ⟨.str t, H', I', ⟨_, rfl⟩, q⟩
      | next => exact False.elim hq
      | brk => exact False.elim hq
      | cont => exact False.elim hq
end

/-! ### over data -/
section
variable {X : Cx} {x : Str} {p pos : Pos} {e v1 v2 : Expr} {es rest : List Expr} {t : TAh} {te : TEh} {K : PySem.W.Frag}
/-- str of a whole number, of a text -/
def hStrN : List D → OH → KH → Prop
  | [.v (.int i)], A, Q => i.natAbs.log2 < 1920 ∧ Q (.v (.str (toString i))) A
  | [.v (.str y)], A, Q => Q (.v (.str y)) A
  | _, _, _ => False
theorem l_strN : LC K (fun xs H Q => (∃ i, xs = [.int i] ∧ i.natAbs.log2 < 1920 ∧ Q (.str (toString i)) H) ∨ ∃ a, xs = [.str a] ∧ Q (.str a) H) hStrN := by
  intro θ H A xs ds Q Qh r ra w k
  unfold hStrN at w
  split at w
  · obtain ⟨x, rfl, rx⟩ := r.one
    cases rx
    exact .inl ⟨_, rfl, w.1, k.here ra (.v _) w.2⟩
  · obtain ⟨x, rfl, rx⟩ := r.one
    cases rx
    exact .inr ⟨_, rfl, k.here ra (.v _) w⟩
  · exact w.elim
theorem cr_strN : CallR X (.type "str") (fun xs H Q => (∃ i, xs = [.int i] ∧ i.natAbs.log2 < 1920 ∧ Q (.str (toString i)) H) ∨ ∃ a, xs = [.str a] ∧ Q (.str a) H) := call_str_int.or SkE.call_str_str
/-- str(x), x's own __str__ -/
def hStrI (C : Addr) (sp : Sph) : List D → OH → KH → Prop
  | [.ptr i], A, Q => ∃ fs, A[i]? = some (.ins C fs) ∧ Ask sp [.ptr i] A fun r A' => ∃ y : Str, r = .v (.str y) ∧ Q (.v (.str y)) A'
  | _, _, _ => False
theorem l_strI {C : Addr} {sp : Sph} : LC K (rStrI C (spOf K 1 sp) fun _ _ _ => False) (hStrI C sp) := by
  intro θ H A xs ds Q Qh r ra w k
  unfold hStrI at w
  split at w
  · obtain ⟨fs, h0, w⟩ := w
    obtain ⟨x, rfl, rx⟩ := r.one
    cases rx with
    | ptr hi =>
      obtain ⟨dx, xs, g, _, rf⟩ := ra.ok _ _ _ hi h0
      refine ⟨_, dx, xs, rfl, g, rfl, θ, _, A, _, .cons (.ptr hi) .nil, ra, w.h, fun θ' H' A' v d e' ra' r q => ?_⟩
      obtain ⟨y, rfl, q⟩ := q
      cases r
      exact ⟨y, rfl, k _ _ _ _ _ e' ra' (.v _) q⟩
  · exact w.elim
/-- {e} of a text or a whole number -/
def hFmt (te : TEh) : TEh := fun σ A Q => te σ A fun d A1 => match d with
  | .v (.int i) => i.natAbs.log2 < 1920 ∧ Q (.v (.str (toString i))) A1
  | .v (.str y) => y.length ≤ sizeLine ∧ Q (.v (.str y)) A1
  | _ => False
theorem ph_fmt (he : PE X e (lift X.K te)) : PE X (.FormattedValue e (-1) none pos) (lift X.K (hFmt te)) :=
  (pe_fmt he).imp fun σ H Q ⟨θ, σh, A, Qh, rs, ra, w, k⟩ => ⟨θ, σh, A, _, rs, ra, w, fun θ1 H1 A1 v d e1 ra1 r1 w1 => by
    split at w1
    · cases r1; exact .inr ⟨_, rfl, w1.1, k _ _ _ _ _ e1 ra1 (.v _) w1.2⟩
    · cases r1; exact .inl ⟨_, rfl, w1.1, k _ _ _ _ _ e1 ra1 (.v _) w1.2⟩
    · exact w1.elim⟩
/-- {e} of an instance with an own __str__ -/
def hFmtI (C : Addr) (sp : Sph) (te : TEh) : TEh := fun σ A Q => te σ A fun d A1 => match d with
  | .ptr i => ∃ fs, A1[i]? = some (.ins C fs) ∧ Ask sp [.ptr i] A1 fun r A' => ∃ y : Str, r = .v (.str y) ∧ Q (.v (.str y)) A'
  | _ => False
theorem ph_fmtI {C f : Addr} {k : Nat} {fd : FuncData} {ps : List Str} {sp : Sph} (F : FnOk X.prog X.w X.K X.mg X.base CX0 k f fd ps (spOf X.K 1 sp)) (hs : PySem.W.findIn X.K (.ref C) "__str__" = some (some (.ref f))) (hf : PySem.W.isFn X.K (.ref f) = true) (hfm : PySem.W.findIn X.K (.ref C) "__format__" = some (some (.builtin "object.__format__"))) (hm : PySem.W.mroIn X.K C (.type "object") = some true)
    (hb : L2.Binds X.K fd ps []) (hr : Room (k + 1) X.A) (he : PE X e (lift X.K te)) : PE X (.FormattedValue e (-1) none pos) (lift X.K (hFmtI C sp te)) :=
  (pe_fmtI (E := fun _ _ _ => False) F hs hf hfm hm hb pass0 hr he).imp fun σ H Q ⟨θ, σh, A, Qh, rs, ra, w, k⟩ => ⟨θ, σh, A, _, rs, ra, w, fun θ1 H1 A1 v d e1 ra1 r1 w1 => by
    split at w1
    · obtain ⟨fs, h0, w1⟩ := w1
      cases r1 with
      | ptr hi =>
        obtain ⟨dx, xs, g, _, rf⟩ := ra1.ok _ _ _ hi h0
        refine ⟨_, dx, xs, rfl, g, rfl, θ1, _, A1, _, .cons (.ptr hi) .nil, ra1, w1.h, fun θ' H' A' v d e' ra' r q => ?_⟩
        obtain ⟨y, rfl, q⟩ := q
        cases r
        exact ⟨y, rfl, k _ _ _ _ _ (e1.trans e') ra' (.v _) q⟩
    · exact w1.elim⟩
/-- the parts of f".." -/
inductive PJh (X : Cx) : List Expr → List TEh → Prop where
  | nil : PJh X [] []
  | cons {e : Expr} {t : TEh} {es : List Expr} {ts : List TEh} (h : PE X e (lift X.K t)) (r : PJh X es ts) : PJh X (e :: es) (t :: ts)
theorem PJh.pj {es : List Expr} {ts : List TEh} (h : PJh X es ts) : PJ X es (ts.map (lift X.K)) := by
  induction h with
  | nil => exact .nil
  | cons h _ ih => exact .cons h ih
def hJs : List TEh → Str → SH → OH → KH → Prop
  | [], acc, _, A, Q => Q (.v (.str acc)) A
  | t :: ts, acc, σ, A, Q => t σ A fun d A1 => ∃ y : Str, d = .v (.str y) ∧ (acc ++ y).length ≤ sizeLine ∧ hJs ts (acc ++ y) σ A1 Q
theorem lift_js : ∀ (ts : List TEh) (acc : Str) {θ : List Addr} {σ : L2.St} {σh : SH} {H : Hp} {A : OH} {Q : VK} {Qh : KH}, RS K θ H σ σh → RA K θ H A → hJs ts acc σh A Qh → Kt K θ H Q Qh → tJs (ts.map (lift K)) acc σ H fun out H1 => Q (.str out) H1
  | [], acc, _, _, _, _, _, _, _, rs, ra, w, k => k.here ra (.v (.str acc)) w
  | t :: ts, acc, _, _, _, _, _, _, _, rs, ra, w, k => ⟨_, _, _, _, rs, ra, w, fun θ1 H1 A1 v d e1 ra1 r1 w1 => by
      obtain ⟨y, rfl, hy, w1⟩ := w1
      cases r1
      exact ⟨y, rfl, hy, lift_js ts (acc ++ y) (rs.ext e1) ra1 w1 (k.ext e1)⟩⟩
def hJoin (ts : List TEh) : TEh := fun σ A Q => hJs ts Str.empty σ A Q
theorem ph_joined {ts : List TEh} (h : PJh X (v1 :: v2 :: rest) ts) : PE X (.JoinedStr (v1 :: v2 :: rest) pos) (lift X.K (hJoin ts)) :=
  (pe_joined h.pj).imp fun σ H Q ⟨θ, σh, A, Qh, rs, ra, w, k⟩ => lift_js ts Str.empty rs ra w k
theorem ph_joined1 (h : PE X e (lift X.K te)) : PE X (.JoinedStr [e] pos) (lift X.K te) := pe_joined1 h
/-- gcd(a, b) -/
def hGcd : List D → OH → KH → Prop
  | [.v (.int a), .v (.int b)], A, Q => Q (.v (.int ((Nat.gcd a.natAbs b.natAbs : Nat) : Int))) A
  | _, _, _ => False
theorem l_gcd : LC K rGcd hGcd := by
  intro θ H A xs ds Q Qh r ra w k
  unfold hGcd at w
  split at w
  · obtain ⟨x, y, rfl, rx, ry⟩ := r.two
    cases rx
    cases ry
    exact ⟨_, _, rfl, k.here ra (.v _) w⟩
  · exact w.elim
theorem ph_gcd (hg : Gl X x) (hm : X.mg x = some (.builtin "math.gcd")) (ha : PA X (e :: es) (liftA X.K t)) (hdb : (x == ("__debug__" : Str)) = false := by decide)
    (he : starEach (e :: es) X.env = (false, eval e X.env) :: starEach es X.env := by rfl) (hpl : (backTo pos (starEach es X.env)).any (·.1) = false := by rfl) : PE X (.Call (.Name x p) (e :: es) [] pos) (lift X.K (hCB hGcd t)) :=
  (pe_callBfun cr_gcd hg hm ha hdb he hpl).imp (lift_cb l_gcd)
end
end Rp

/-! k43: things, what is a whole number, what is a road of a kind. -/
namespace Rp
open PySem PySem.Spec PyProof.Rows L2
local macro_rules | `(tactic| walk_at "vd") => `(tactic| rfl)
local macro_rules | `(tactic| walk_at "w") => `(tactic| (conv => whnf))
local macro_rules | `(tactic| walk_at "ni") => `(tactic| first | exact ni0 | (refine ni2 ?_ ?_ <;> omega) | (refine ni1 ?_ <;> omega) | (refine ni3 ?_ ?_ ?_ <;> omega))
local macro_rules | `(tactic| walk_at "hp") => `(tactic| first | assumption | exact New.get (by assumption) | exact Put.get (by assumption) | (refine New.old (by assumption) ?_; walk_at "hp") | (refine Kq.old0 (by assumption) ?_; walk_at "hp") | (refine Kq.old (by assumption) (by walk_at "ni") ?_; walk_at "hp") | (refine Put.old (by assumption) (by omega) ?_; walk_at "hp"))
local macro_rules | `(tactic| walk_at "kq") => `(tactic| first | exact Kq.refl _ _ | assumption | (refine Kq.new ?_ (by assumption); walk_at "kq") | (refine Kq.putO ?_ (by assumption) (by omega); walk_at "kq") | (refine Kq.putM ?_ (by assumption) (by simp); walk_at "kq") | (refine Kq.trans0 ?_ (by assumption); walk_at "kq") | (refine Kq.trans ?_ (by assumption); walk_at "kq"))
local macro_rules | `(tactic| walk_at "nw") => `(tactic| (intro k A' n; have e := New.eq n; have l := New.len n))
local macro_rules | `(tactic| walk_at "pt") => `(tactic| (intro A' p; have l := Put.len p))
local macro_rules | `(tactic| walk_at "ix") => `(tactic| first | rfl | assumption | exact at_zero)
local macro_rules | `(tactic| walk_at "ar") => `(tactic| first | omega | exact True.intro | assumption | decide | exact Or.inl ⟨by omega, by omega⟩ | exact Or.inr ⟨by omega, by omega⟩ | exact ⟨by omega, by omega⟩ | exact ⟨by decide, by decide, by decide⟩ | (simp only [List.length_map, List.length_append, List.length_cons, List.length_nil, List.length_range, List.length_replicate, List.length_zip, List.length_drop, List.length_take]; omega) | (rw [sizeLine_eq]; first | decide | (simp; done) | (simp; omega)) | (simp; done))
local macro_rules | `(tactic| walk_at "br") => `(tactic| first | (with_reducible refine Br.t ?_) | (with_reducible refine Br.f ?_) | ((with_reducible refine Br.nf ?_ ?_); (first | with_reducible rfl | assumption | omega | exact (rfl : (_ : Int) = _))) | ((with_reducible refine Br.dt ?_ ?_); (first | assumption | omega | exact (rfl : (_ : Int) = _))) | ((with_reducible refine Br.df ?_ ?_); (first | assumption | omega)) | ((with_reducible refine Br.nt ?_ ?_); (first | assumption | omega)) | ((with_reducible refine Br.yes_of ?_ ?_); (first | with_reducible rfl | assumption | decide | (simp only [List.isEmpty_cons, List.isEmpty_nil, Bool.not_true, Bool.not_false]; done))) | ((with_reducible refine Br.no_of ?_ ?_); (first | with_reducible rfl | assumption | decide | (simp only [List.isEmpty_cons, List.isEmpty_nil, Bool.not_true, Bool.not_false]; done))))
local macro_rules | `(tactic| walk_at "ask") => `(tactic| fail)
local macro_rules | `(tactic| walk_at "ty") => `(tactic| first | exact TyD.int _ | exact TyD.bl _ | exact TyD.non | exact TyD.str _ | exact TyD.tup _ | (apply TyD.lst; walk_at "hp") | (apply TyD.dK; walk_at "hp") | (apply tyd_ins; assumption; assumption; walk_at "hp"))
local macro_rules | `(tactic| walk_at "isi") => `(tactic| (apply Exists.intro; apply Exists.intro; apply Exists.intro; apply And.intro; (first | exact ClsV.ty _ | exact ClsV.own _); apply And.intro; (walk_at "ty"); apply And.intro; (first | exact rfl | exact kit_self)))
local macro_rules | `(tactic| walk_at "ex") => `(tactic| first | (apply Exists.intro; apply Exists.intro; apply Exists.intro; apply And.intro; (walk_at "hp"); apply And.intro; (exact rfl); apply And.intro; (walk_at "vd")) | (apply Exists.intro; apply Exists.intro; apply And.intro; (walk_at "hp"); apply And.intro; (walk_at "hp"); apply And.intro; (first | walk_at "ar" | (simp only [sizeLine_eq, List.length_cons, List.length_nil, List.length_map, List.length_append]; omega))) | (apply Exists.intro; apply Exists.intro; apply And.intro; (walk_at "hp"); apply And.intro; (exact rfl)) | (apply Exists.intro; apply Exists.intro; apply And.intro; (walk_at "hp")) | (apply Exists.intro; apply And.intro; (walk_at "hp"); apply And.intro; (walk_at "ar")) | (apply Exists.intro; apply And.intro; (walk_at "hp"); apply And.intro; (exact rfl)) | (apply Exists.intro; apply And.intro; (walk_at "hp")) | (apply Exists.intro; apply And.intro; (walk_at "ix")))
local macro_rules | `(tactic| walk_at "an") => `(tactic| first | (apply And.intro; (exact Exists.intro _ (by walk_at "hp"))) | (apply And.intro; (walk_at "ar")))
local macro_rules | `(tactic| walk_at "dp") => `(tactic| first | exact DP.bl _ | exact DP.int _ | exact DP.non | exact DP.str _ | (apply DP.tup; walk_at "dps") | (apply DP.lst; (walk_at "hp"); (walk_at "dps")))
local macro_rules | `(tactic| walk_at "dps") => `(tactic| first | exact DPs.nil | (apply DPs.cons; (walk_at "dp"); (walk_at "dps")) | exact dps_ints | exact dps_bools)
local macro_rules | `(tactic| walk_at "sw") => `(tactic| first | exact Sw.bl0 | (apply Sw.int0; exact ⟨by omega, by omega⟩) | exact Sw.non0 | (apply Sws.tup; walk_at "sws") | (apply Sws.lst; walk_at "sws") | (apply Sw.str0; decide +kernel))
local macro_rules | `(tactic| walk_at "sws") => `(tactic| first | exact Sws.nil0 | (apply Sws.cons; (walk_at "sw"); (walk_at "sws")) | (apply Sws.ints; assumption) | exact Sws.bools)
local macro_rules | `(tactic| walk_at "shw") => `(tactic| exact Sw.shw (n := 12) (by walk_at "sw") (by decide) (by first | decide | omega))
local macro_rules | `(tactic| walk_at "shp") => `(tactic| exact Sw.shaped (n := 12) (by walk_at "sw") (by decide))
local macro_rules | `(tactic| walk_at "rp") => `(tactic| first | (apply Exists.intro; apply And.intro; (walk_at "dp"); apply And.intro; (walk_at "shw")) | (apply Exists.intro; apply And.intro; (apply Exists.intro; apply Exists.intro; apply And.intro; (walk_at "dp"); apply And.intro; (walk_at "dp"); apply And.intro; (walk_at "shp"); apply And.intro; (walk_at "shp"); (exact rfl))))
local macro_rules | `(tactic| walk_at "st") => `(tactic| ((conv => whnf); first | walk_at "br" | ((with_reducible refine IfQ.go ?_); (conv => whnf); walk_at "br") | walk_at "nw" | walk_at "pt" | ((with_reducible show Ask _ _ _ _); walk_at "ask") | ((with_reducible show Exists _); first | walk_at "ex" | walk_at "isi" | walk_at "rp") | ((with_reducible show And _ _); walk_at "an") | ((with_reducible show Or _ _); apply Or.inl; apply Exists.intro; apply And.intro; (walk_at "hp"))))
local macro_rules | `(tactic| walk_at "s0") => `(tactic| try ((first | dsimp only [startH] | dsimp only [startHN]); dsimp only [sl_lenC, sl_lenN, sl_mapC, sl_mapN, Nat.reduceAdd, Nat.reduceSub, sl_repS, sl_rep0, sl_appC, sl_appN]))
local macro_rules | `(tactic| walk_at "sn") => `(tactic| try dsimp only [sl_set0, sl_setS])
local macro_rules | `(tactic| walk_at "go") => `(tactic| (walk_at "s0"; walk_at "sn"; (repeat walk_at "st"); (try (conv => whnf))))
local macro_rules | `(tactic| walk_at "lv") => `(tactic| first | exact True.intro | (show _[_]? = some _; walk_at "hp"))
local macro_rules | `(tactic| walk_at "rg") => `(tactic| (refine gI_all ?_ (by first | exact (i01 _).1 | omega) (by first | exact (i01 _).2 | (simp only [List.length_cons, List.length_nil]; omega)); intro x hx; simp only [List.mem_cons, List.not_mem_nil, or_false] at hx; omega))
local macro_rules | `(tactic| walk_at "sq") => `(tactic| (refine Seq.eq ?_; (try dsimp only [sl_set0, sl_setS]); repeat (first | (with_reducible exact Seq.nil) | (with_reducible refine Seq.cons (by rfl) ?_) | exact Seq.nil | (refine Seq.cons (by rfl) ?_))))
local macro_rules | `(tactic| walk_at "pt") => `(tactic| (intro A' p; have l := Put.len p; try rw [pd_at] at p))
local macro_rules | `(tactic| walk_at "vd") => `(tactic| first | exact vd_cells | exact vd_seed | exact vd_at)
local macro_rules | `(tactic| walk_at "dk0") => `(tactic| first | assumption | exact DeckW.new' (by assumption) (by walk_at "dk0") | exact DeckW.kq' (by assumption) (by walk_at "dk0") | exact DeckW.put' (by assumption) (by walk_at "dk0") (by omega) (by omega))
local macro_rules | `(tactic| walk_at "dk") => `(tactic| (refine DeckW.mono (by walk_at "dk0") ?_; omega))
local macro_rules | `(tactic| walk_at "ask") => `(tactic| (refine ask_draw (by walk_at "dk0") (by omega) (by omega) (by omega) ?_; intro d A' d0 d1 D q; have l := Kq.len q))
local macro_rules | `(tactic| walk_at "hp") => `(tactic| first | assumption | exact New.get (by assumption) | exact Put.get (by assumption) | (refine New.old (by assumption) ?_; walk_at "hp") | (refine Kq.old0 (by assumption) ?_; walk_at "hp") | (refine Kq.old_insW (by assumption) (by walk_at "dk0") ?_; walk_at "hp") | (refine Kq.old_tabW (by assumption) (by walk_at "dk0") ?_; walk_at "hp") | (refine Kq.old (by assumption) (by walk_at "ni") ?_; walk_at "hp") | (refine Put.old (by assumption) (by omega) ?_; walk_at "hp"))
abbrev Bd (i : Int) : Prop := -5000 ≤ i ∧ i ≤ 5000
theorem strOk_of (s : String) : PyData.strOk (Str.ofString s) = true := by
  unfold PyData.strOk
  rw [PySem.Str.ofString_eq_toList, Array.all_eq_true]
  intro i hi
  simp only [decide_eq_true_eq]
  have hm := Array.getElem_mem hi
  have hc : (s.toList.map Char.toNat).toArray[i] ∈ s.toList.map Char.toNat := by simpa using hm
  obtain ⟨k, _, e⟩ := List.mem_map.mp hc
  rw [← e]
  have := k.valid
  unfold Nat.isValidChar UInt32.isValidChar at *
  have h2 : k.toNat = k.val.toNat := rfl
  omega
/-- a small thing -/
inductive It (X : List Nat) (A : OH) : D → Prop
  | int (i : Int) (h : Bd i) : It X A (.v (.int i))
  | bl (b : Bool) : It X A (.v (.bl b))
  | non : It X A (.v .non)
  | str (s : String) (h : s.length ≤ 8) : It X A (.v (.str (Str.ofString s)))
  | tup (i : Int) (h : Bd i) : It X A (.tup [.v (.int i)])
  | lst {j : Nat} (i : Int) (h : Bd i) (n : j ∉ X) (e : A[j]? = some (.lst [.v (.int i)])) : It X A (.ptr j)
  | dct {j : Nat} (n : j ∉ X) (e : A[j]? = some (.dK [])) : It X A (.ptr j)
theorem It.kq {X : List Nat} {A A' : OH} {d : D} (h : It X A d) (q : Kq X A A') : It X A' d := by
  cases h with
  | int i h => exact .int i h
  | bl b => exact .bl b
  | non => exact .non
  | str s h => exact .str s h
  | tup i h => exact .tup i h
  | lst i h n e => exact .lst i h n (q.old n e)
  | dct n e => exact .dct n (q.old n e)
/-- a thing that is held against a kind -/
inductive Th (X : List Nat) (A : OH) : D → Prop
  | road (L : List Int) (n : L.length ≤ 500) (h : ∀ i ∈ L, Bd i) : Th X A (.tup (dI L))
  | odd (a b : List Int) (x : D) (n : a.length + b.length ≤ 500) (ha : ∀ i ∈ a, Bd i) (hb : ∀ i ∈ b, Bd i) (h : It X A x) : Th X A (.tup (dI a ++ [x] ++ dI b))
  | lst {j : Nat} (L : List Int) (n : L.length ≤ 500) (h : ∀ i ∈ L, Bd i) (nj : j ∉ X) (e : A[j]? = some (.lst (dI L))) : Th X A (.ptr j)
  | it (x : D) (h : It X A x) : Th X A x
theorem Th.kq {X : List Nat} {A A' : OH} {d : D} (h : Th X A d) (q : Kq X A A') : Th X A' d := by
  cases h with
  | road L n h => exact .road L n h
  | odd a b x n ha hb h => exact .odd a b x n ha hb (h.kq q)
  | lst L n h nj e => exact .lst L n h nj (q.old nj e)
  | it _ h => exact .it _ (h.kq q)
theorem Th.items {X : List Nat} {A : OH} {ds : List D} (h : Th X A (.tup ds)) : ds.length ≤ 501 ∧ ∀ x ∈ ds, It X A x := by
  have intsI : ∀ {L : List Int}, (∀ i ∈ L, Bd i) → ∀ x ∈ dI L, It X A x := fun h x hx => by
    obtain ⟨i, hi, rfl⟩ := List.mem_map.mp hx
    exact .int i (h i hi)
  generalize hd : D.tup ds = d at h
  cases h with
  | road L n h =>
    cases hd
    exact ⟨by rw [List.length_map]; omega, intsI h⟩
  | odd a b x n ha hb h =>
    cases hd
    refine ⟨by rw [List.length_append, List.length_append, List.length_map, List.length_map, List.length_singleton]; omega, fun y hy => ?_⟩
    rcases List.mem_append.mp hy with hy | hy
    · rcases List.mem_append.mp hy with hy | hy
      · exact intsI ha y hy
      · cases List.mem_singleton.mp hy; exact h
    · exact intsI hb y hy
  | lst => cases hd
  | it _ h =>
    cases hd
    cases h with
    | tup i h => exact ⟨by show 1 ≤ 501; decide, fun y hy => by cases List.mem_singleton.mp hy; exact .int i h⟩
theorem bd75 {i : Int} (h : Bd i) : -(2 ^ 75) ≤ i ∧ i ≤ 2 ^ 75 := by
  have : (5000 : Int) ≤ 2 ^ 75 := by decide
  omega
theorem dws_bd {A : OH} {n : Nat} {L : List Int} (h : ∀ i ∈ L, Bd i) (hl : L.length ≤ 501) : Dws A n 501 (dI L) (L.map .int) := (Dws.ints fun i hi => bd75 (h i hi)).mono (by omega)
theorem odd_map (a b : List Int) (x : D) (p : PyData) : dI a ++ [x] ++ dI b = ((a.map fun i => (D.v (.int i), PyData.int i)) ++ [(x, p)] ++ (b.map fun i => (D.v (.int i), PyData.int i))).map Prod.fst ∧
    a.map PyData.int ++ [p] ++ b.map PyData.int = ((a.map fun i => (D.v (.int i), PyData.int i)) ++ [(x, p)] ++ (b.map fun i => (D.v (.int i), PyData.int i))).map Prod.snd := by
  constructor <;> simp [List.map_append, List.map_map, Function.comp_def]
theorem odd_all {P : D × PyData → Prop} {a b : List Int} {x : D} {p : PyData} (ha : ∀ i ∈ a, Bd i) (hb : ∀ i ∈ b, Bd i) (hi : ∀ i, Bd i → P (.v (.int i), .int i)) (hx : P (x, p)) : ∀ y ∈ (a.map fun i => (D.v (.int i), PyData.int i)) ++ [(x, p)] ++ (b.map fun i => (D.v (.int i), PyData.int i)), P y := by
  intro y hy
  rcases List.mem_append.mp hy with hy | hy
  · rcases List.mem_append.mp hy with hy | hy
    · obtain ⟨i, h, rfl⟩ := List.mem_map.mp hy; exact hi i (ha i h)
    · cases List.mem_singleton.mp hy; exact hx
  · obtain ⟨i, h, rfl⟩ := List.mem_map.mp hy; exact hi i (hb i h)
theorem odd_len (a b : List Int) (x : D) (p : PyData) : ((a.map fun i => (D.v (.int i), PyData.int i)) ++ [(x, p)] ++ (b.map fun i => (D.v (.int i), PyData.int i))).length = a.length + b.length + 1 := by
  simp only [List.length_append, List.length_map, List.length_singleton]
  omega
theorem Dw.low {A : OH} {n b c : Nat} {d : D} {p : PyData} (h : Dw A n b d p) (hb : b ≤ c) : Dw A n c d p := ⟨h.dp, h.sw.mono hb⟩
theorem odd_dw {A : OH} {a b : List Int} {x : D} {p : PyData} (ha : ∀ i ∈ a, Bd i) (hb : ∀ i ∈ b, Bd i) (n : a.length + b.length ≤ 500) (h : Dw A 11 60 x p) : Dw A 12 40000 (.tup (dI a ++ [x] ++ dI b)) (.tuple (a.map .int ++ [p] ++ b.map .int)) := by
  rw [(odd_map a b x p).1, (odd_map a b x p).2]
  refine Dw.tup ((Dws.map (n := 11) (b := 60) (odd_all (P := fun y => Dw A 11 60 y.1 y.2) ha hb (fun i hi => (Dw.int (bd75 hi)).low (by decide)) h)).mono ?_)
  rw [odd_len]
  omega
/-! with {} -/
structure SwE (n b : Nat) (d : PyData) : Prop where
  dp : d.depth ≤ n
  ls : d.leavesShort 80 = true
  sh : d.showable = true
  bk : d.bulk ≤ b
structure SwsE (n b : Nat) (ds : List PyData) : Prop where
  dp : PyData.depthAll ds ≤ n
  ls : PyData.leavesShortAll 80 ds = true
  sh : PyData.showableAll ds = true
  bk : PyData.bulkAll ds ≤ b
theorem SwE.shw {n b : Nat} {d : PyData} (h : SwE n b d) (hn : n ≤ 16) (hb : b ≤ 150000) : ShwE d := by
  refine ⟨h.sh, Nat.le_trans h.dp hn, ?_⟩
  have q := PyData.shown_le_bulk 80 (by decide) d h.ls
  have w := h.bk
  rw [sizeLine_eq]
  omega
theorem SwE.of {n b : Nat} {d : PyData} (h : Sw n b d) : SwE n b d := ⟨h.dp, h.ls, h.sh, h.bk⟩
theorem SwsE.nil {n b : Nat} : SwsE n b [] := ⟨Nat.zero_le _, rfl, rfl, Nat.zero_le _⟩
theorem SwsE.cons {n b c : Nat} {d : PyData} {ds : List PyData} (h : SwE n b d) (t : SwsE n c ds) : SwsE n (b + 1 + c) (d :: ds) :=
  ⟨by simp only [PyData.depthAll]; have := h.dp; have := t.dp; omega, by simp only [PyData.leavesShortAll, h.ls, t.ls, Bool.and_self], by simp only [PyData.showableAll, h.sh, t.sh, Bool.and_self],
    by simp only [PyData.bulkAll]; have := h.bk; have := t.bk; omega⟩
theorem SwsE.tup {n b : Nat} {ds : List PyData} (t : SwsE n b ds) : SwE (n + 1) b (.tuple ds) := ⟨by simp only [PyData.depth]; have := t.dp; omega, by simpa only [PyData.leavesShort] using t.ls, by simpa only [PyData.showable] using t.sh, by simpa only [PyData.bulk] using t.bk⟩
theorem SwsE.mono {n b c : Nat} {ds : List PyData} (t : SwsE n b ds) (h : b ≤ c) : SwsE n c ds := ⟨t.dp, t.ls, t.sh, Nat.le_trans t.bk h⟩
theorem SwsE.map {α : Type} {g : α → PyData} {n b : Nat} : ∀ {xs : List α}, (∀ x ∈ xs, SwE n b (g x)) → SwsE n (xs.length * (b + 1)) (xs.map g)
  | [], _ => .nil
  | x :: xs, h => by
    have := (SwsE.cons (h x List.mem_cons_self) (SwsE.map (xs := xs) fun y hy => h y (List.mem_cons_of_mem _ hy))).mono (c := (x :: xs).length * (b + 1)) (by rw [List.length_cons, Nat.succ_mul]; omega)
    exact this
theorem dts_map {α : Type} {A : OH} {f : α → D} {g : α → PyData} : ∀ {xs : List α}, (∀ x ∈ xs, DT A (f x) (g x)) → DTs A (xs.map f) (xs.map g)
  | [], _ => .nil
  | x :: xs, h => .cons (h x List.mem_cons_self) (dts_map fun y hy => h y (List.mem_cons_of_mem _ hy))
theorem swe_dict {n : Nat} : SwE (n + 1) 2 (.dict []) := ⟨by simp [PyData.depth, PyData.depthKv], rfl, rfl, by decide⟩
theorem odd_dt {A : OH} {a b : List Int} {k : Nat} (ha : ∀ i ∈ a, Bd i) (hb : ∀ i ∈ b, Bd i) (n : a.length + b.length ≤ 500) (h : A[k]? = some (.dK [])) : ShwD A (.tup (dI a ++ [.ptr k] ++ dI b)) (.tuple (a.map .int ++ [.dict []] ++ b.map .int)) := by
  right
  rw [(odd_map a b (.ptr k) (.dict [])).1, (odd_map a b (.ptr k) (.dict [])).2]
  refine ⟨.tup (dts_map (odd_all (P := fun y => DT A y.1 y.2) ha hb (fun i _ => .int i) (.dct h))), SwE.shw (n := 4) (b := 40000) ((SwsE.map (n := 3) (b := 60) (odd_all (P := fun y => SwE 3 60 y.2) ha hb (fun i hi => .of (Sw.int (bd75 hi))) ⟨by have := (swe_dict (n := 2)).dp; exact this, rfl, rfl, Nat.le_trans (swe_dict (n := 0)).bk (by decide)⟩)).mono ?_).tup (by decide) (by decide)⟩
  rw [odd_len]
  omega
theorem str_dw {A : OH} {n : Nat} {s : String} (h : s.length ≤ 8) : Dw A n 60 (.v (.str (Str.ofString s))) (.str (Str.ofString s)) := by
  refine (Dw.str (strOk_of s)).low ?_
  have e := PySem.ofString_length s
  show (Str.ofString s).length ≤ 60
  omega
theorem It.dw {X : List Nat} {A : OH} {d : D} (h : It X A d) : (∃ p, Dw A 11 60 d p) ∨ ∃ k, d = .ptr k ∧ A[k]? = some (.dK []) := by
  cases h with
  | int i h => exact .inl ⟨_, (Dw.int (bd75 h)).low (by decide)⟩
  | bl b => exact .inl ⟨_, (Dw.bl (x := b)).low (by decide)⟩
  | non => exact .inl ⟨_, Dw.non.low (by decide)⟩
  | str s h => exact .inl ⟨_, str_dw h⟩
  | tup i h => exact .inl ⟨_, (Dw.tup (n := 10) ((Dws.ints (ns := [i]) fun j hj => by cases List.mem_singleton.mp hj; exact bd75 h).mono (by show 1 * 1 ≤ 60; decide)))⟩
  | lst i h n e => exact .inl ⟨_, (Dw.lst (n := 10) (ds := dI [i]) e ((Dws.ints (ns := [i]) fun j hj => by cases List.mem_singleton.mp hj; exact bd75 h).mono (by show 1 * 1 ≤ 60; decide)))⟩
  | dct n e => exact .inr ⟨_, rfl, e⟩
theorem Th.shw {X : List Nat} {A : OH} {d : D} (h : Th X A d) : ∃ p, ShwD A d p := by
  have fin : ∀ {p : PyData} {b : Nat} {d : D}, b ≤ 150000 → Dw A 12 b d p → ∃ p, ShwD A d p := fun hb h => ⟨_, .inl ⟨h.dp, h.sw.shw (by decide) hb⟩⟩
  cases h with
  | road L n h => exact fin (by decide) (Dw.tup (n := 11) (dws_bd h (by omega)))
  | odd a b x n ha hb h =>
    rcases h.dw with ⟨p, hp⟩ | ⟨k, rfl, e⟩
    · exact fin (by decide) (odd_dw ha hb n hp)
    · exact ⟨_, odd_dt ha hb n e⟩
  | lst L n h nj e => exact fin (by decide) (Dw.lst (n := 11) e (dws_bd h (by omega)))
  | it _ h =>
    rcases h.dw with ⟨p, hp⟩ | ⟨k, rfl, e⟩
    · exact fin (b := 60) (by decide) ⟨hp.dp, ⟨hp.sw.cl, Nat.le_succ_of_le hp.sw.dp, hp.sw.ls, hp.sw.sh, hp.sw.bk⟩⟩
    · exact ⟨_, .inr ⟨.dct e, SwE.shw (n := 1) (b := 60) ⟨(swe_dict (n := 0)).dp, rfl, rfl, by decide⟩ (by decide) (by decide)⟩⟩
end Rp

/-! k43: is_whole, is_of_kind, what the law asks. -/
namespace Rp
open PySem PySem.Spec PyProof.Rows L2
local macro_rules | `(tactic| walk_at "vd") => `(tactic| rfl)
local macro_rules | `(tactic| walk_at "w") => `(tactic| (conv => whnf))
local macro_rules | `(tactic| walk_at "ni") => `(tactic| first | exact ni0 | (refine ni2 ?_ ?_ <;> omega) | (refine ni1 ?_ <;> omega) | (refine ni3 ?_ ?_ ?_ <;> omega))
local macro_rules | `(tactic| walk_at "hp") => `(tactic| first | assumption | exact New.get (by assumption) | exact Put.get (by assumption) | (refine New.old (by assumption) ?_; walk_at "hp") | (refine Kq.old0 (by assumption) ?_; walk_at "hp") | (refine Kq.old (by assumption) (by walk_at "ni") ?_; walk_at "hp") | (refine Put.old (by assumption) (by omega) ?_; walk_at "hp"))
local macro_rules | `(tactic| walk_at "kq") => `(tactic| first | exact Kq.refl _ _ | assumption | (refine Kq.new ?_ (by assumption); walk_at "kq") | (refine Kq.putO ?_ (by assumption) (by omega); walk_at "kq") | (refine Kq.putM ?_ (by assumption) (by simp); walk_at "kq") | (refine Kq.trans0 ?_ (by assumption); walk_at "kq") | (refine Kq.trans ?_ (by assumption); walk_at "kq"))
local macro_rules | `(tactic| walk_at "nw") => `(tactic| (intro k A' n; have e := New.eq n; have l := New.len n))
local macro_rules | `(tactic| walk_at "pt") => `(tactic| (intro A' p; have l := Put.len p))
local macro_rules | `(tactic| walk_at "ix") => `(tactic| first | rfl | assumption | exact at_zero)
local macro_rules | `(tactic| walk_at "ar") => `(tactic| first | omega | exact True.intro | assumption | decide | exact Or.inl ⟨by omega, by omega⟩ | exact Or.inr ⟨by omega, by omega⟩ | exact ⟨by omega, by omega⟩ | exact ⟨by decide, by decide, by decide⟩ | (simp only [List.length_map, List.length_append, List.length_cons, List.length_nil, List.length_range, List.length_replicate, List.length_zip, List.length_drop, List.length_take]; omega) | (rw [sizeLine_eq]; first | decide | (simp; done) | (simp; omega)) | (simp; done))
local macro_rules | `(tactic| walk_at "br") => `(tactic| first | (with_reducible refine Br.t ?_) | (with_reducible refine Br.f ?_) | ((with_reducible refine Br.nf ?_ ?_); (first | with_reducible rfl | assumption | omega | exact (rfl : (_ : Int) = _))) | ((with_reducible refine Br.dt ?_ ?_); (first | assumption | omega | exact (rfl : (_ : Int) = _))) | ((with_reducible refine Br.df ?_ ?_); (first | assumption | omega)) | ((with_reducible refine Br.nt ?_ ?_); (first | assumption | omega)) | ((with_reducible refine Br.yes_of ?_ ?_); (first | with_reducible rfl | assumption | decide | (simp only [List.isEmpty_cons, List.isEmpty_nil, Bool.not_true, Bool.not_false]; done))) | ((with_reducible refine Br.no_of ?_ ?_); (first | with_reducible rfl | assumption | decide | (simp only [List.isEmpty_cons, List.isEmpty_nil, Bool.not_true, Bool.not_false]; done))))
local macro_rules | `(tactic| walk_at "ask") => `(tactic| fail)
local macro_rules | `(tactic| walk_at "ty") => `(tactic| first | exact TyD.int _ | exact TyD.bl _ | exact TyD.non | exact TyD.str _ | exact TyD.tup _ | (apply TyD.lst; walk_at "hp") | (apply TyD.dK; walk_at "hp") | (apply tyd_ins; assumption; assumption; walk_at "hp"))
local macro_rules | `(tactic| walk_at "isi") => `(tactic| (apply Exists.intro; apply Exists.intro; apply Exists.intro; apply And.intro; (first | exact ClsV.ty _ | exact ClsV.own _); apply And.intro; (walk_at "ty"); apply And.intro; (first | exact rfl | exact kit_self)))
local macro_rules | `(tactic| walk_at "ex") => `(tactic| first | (apply Exists.intro; apply Exists.intro; apply Exists.intro; apply And.intro; (walk_at "hp"); apply And.intro; (exact rfl); apply And.intro; (walk_at "vd")) | (apply Exists.intro; apply Exists.intro; apply And.intro; (walk_at "hp"); apply And.intro; (walk_at "hp"); apply And.intro; (first | walk_at "ar" | (simp only [sizeLine_eq, List.length_cons, List.length_nil, List.length_map, List.length_append]; omega))) | (apply Exists.intro; apply Exists.intro; apply And.intro; (walk_at "hp"); apply And.intro; (exact rfl)) | (apply Exists.intro; apply Exists.intro; apply And.intro; (walk_at "hp")) | (apply Exists.intro; apply And.intro; (walk_at "hp"); apply And.intro; (walk_at "ar")) | (apply Exists.intro; apply And.intro; (walk_at "hp"); apply And.intro; (exact rfl)) | (apply Exists.intro; apply And.intro; (walk_at "hp")) | (apply Exists.intro; apply And.intro; (walk_at "ix")))
local macro_rules | `(tactic| walk_at "an") => `(tactic| first | (apply And.intro; (exact Exists.intro _ (by walk_at "hp"))) | (apply And.intro; (walk_at "ar")))
local macro_rules | `(tactic| walk_at "dp") => `(tactic| first | exact DP.bl _ | exact DP.int _ | exact DP.non | exact DP.str _ | (apply DP.tup; walk_at "dps") | (apply DP.lst; (walk_at "hp"); (walk_at "dps")))
local macro_rules | `(tactic| walk_at "dps") => `(tactic| first | exact DPs.nil | (apply DPs.cons; (walk_at "dp"); (walk_at "dps")) | exact dps_ints | exact dps_bools)
local macro_rules | `(tactic| walk_at "sw") => `(tactic| first | exact Sw.bl0 | (apply Sw.int0; exact ⟨by omega, by omega⟩) | exact Sw.non0 | (apply Sws.tup; walk_at "sws") | (apply Sws.lst; walk_at "sws") | (apply Sw.str0; decide +kernel))
local macro_rules | `(tactic| walk_at "sws") => `(tactic| first | exact Sws.nil0 | (apply Sws.cons; (walk_at "sw"); (walk_at "sws")) | (apply Sws.ints; assumption) | exact Sws.bools)
local macro_rules | `(tactic| walk_at "shw") => `(tactic| exact Sw.shw (n := 12) (by walk_at "sw") (by decide) (by first | decide | omega))
local macro_rules | `(tactic| walk_at "shp") => `(tactic| exact Sw.shaped (n := 12) (by walk_at "sw") (by decide))
local macro_rules | `(tactic| walk_at "rp") => `(tactic| first | (apply Exists.intro; apply And.intro; (walk_at "dp"); apply And.intro; (walk_at "shw")) | (apply Exists.intro; apply And.intro; (apply Exists.intro; apply Exists.intro; apply And.intro; (walk_at "dp"); apply And.intro; (walk_at "dp"); apply And.intro; (walk_at "shp"); apply And.intro; (walk_at "shp"); (exact rfl))))
local macro_rules | `(tactic| walk_at "st") => `(tactic| ((conv => whnf); first | walk_at "br" | ((with_reducible refine IfQ.go ?_); (conv => whnf); walk_at "br") | walk_at "nw" | walk_at "pt" | ((with_reducible show Ask _ _ _ _); walk_at "ask") | ((with_reducible show Exists _); first | walk_at "ex" | walk_at "isi" | walk_at "rp") | ((with_reducible show And _ _); walk_at "an") | ((with_reducible show Or _ _); apply Or.inl; apply Exists.intro; apply And.intro; (walk_at "hp"))))
local macro_rules | `(tactic| walk_at "s0") => `(tactic| try ((first | dsimp only [startH] | dsimp only [startHN]); dsimp only [sl_lenC, sl_lenN, sl_mapC, sl_mapN, Nat.reduceAdd, Nat.reduceSub, sl_repS, sl_rep0, sl_appC, sl_appN]))
local macro_rules | `(tactic| walk_at "sn") => `(tactic| try dsimp only [sl_set0, sl_setS])
local macro_rules | `(tactic| walk_at "go") => `(tactic| (walk_at "s0"; walk_at "sn"; (repeat walk_at "st"); (try (conv => whnf))))
local macro_rules | `(tactic| walk_at "lv") => `(tactic| first | exact True.intro | (show _[_]? = some _; walk_at "hp"))
local macro_rules | `(tactic| walk_at "rg") => `(tactic| (refine gI_all ?_ (by first | exact (i01 _).1 | omega) (by first | exact (i01 _).2 | (simp only [List.length_cons, List.length_nil]; omega)); intro x hx; simp only [List.mem_cons, List.not_mem_nil, or_false] at hx; omega))
local macro_rules | `(tactic| walk_at "sq") => `(tactic| (refine Seq.eq ?_; (try dsimp only [sl_set0, sl_setS]); repeat (first | (with_reducible exact Seq.nil) | (with_reducible refine Seq.cons (by rfl) ?_) | exact Seq.nil | (refine Seq.cons (by rfl) ?_))))
local macro_rules | `(tactic| walk_at "pt") => `(tactic| (intro A' p; have l := Put.len p; try rw [pd_at] at p))
local macro_rules | `(tactic| walk_at "vd") => `(tactic| first | exact vd_cells | exact vd_seed | exact vd_at)
local macro_rules | `(tactic| walk_at "dk0") => `(tactic| first | assumption | exact DeckW.new' (by assumption) (by walk_at "dk0") | exact DeckW.kq' (by assumption) (by walk_at "dk0") | exact DeckW.put' (by assumption) (by walk_at "dk0") (by omega) (by omega))
local macro_rules | `(tactic| walk_at "dk") => `(tactic| (refine DeckW.mono (by walk_at "dk0") ?_; omega))
local macro_rules | `(tactic| walk_at "ask") => `(tactic| (refine ask_draw (by walk_at "dk0") (by omega) (by omega) (by omega) ?_; intro d A' d0 d1 D q; have l := Kq.len q))
local macro_rules | `(tactic| walk_at "hp") => `(tactic| first | assumption | exact New.get (by assumption) | exact Put.get (by assumption) | (refine New.old (by assumption) ?_; walk_at "hp") | (refine Kq.old0 (by assumption) ?_; walk_at "hp") | (refine Kq.old_insW (by assumption) (by walk_at "dk0") ?_; walk_at "hp") | (refine Kq.old_tabW (by assumption) (by walk_at "dk0") ?_; walk_at "hp") | (refine Kq.old (by assumption) (by walk_at "ni") ?_; walk_at "hp") | (refine Put.old (by assumption) (by omega) ?_; walk_at "hp"))
def isI : D → Bool
  | .v (.int _) => true
  | _ => false
def spWhole : Sph := fun ds A Q => ∃ X d, ds = [d] ∧ It X A d ∧ Q (.v (.bl (isI d))) A
theorem ok_is_whole {P : Program} {w : World} {K : PySem.W.Frag} {mg : Str → Option Value} {base : Heap} (W : Wd K mg) : FnOk P w K mg base CX0 3 W.f_is_whole W.d_is_whole ["thing"] (spOf K 1 (spWhole)) := by
  refine okH (k := 2) W.F_is_whole sc_is_whole fun cdv Ao outer s H E hr => have hu := hr.units; ⟨_, pssh_one (psh_ret (ph_and (ph_callB (l_isi (K := K)) call_isi (by rfl) W.B.isinstance (by decide +kernel) (pah_cons (ph_var (pv 0)) (pah_cons (ph_c (pe_bltn (v := .ty "int") (u := .type "int") (by rfl) W.B.int (by decide +kernel) rfl)) pah_nil))) (ph_one (ph_not (ph_callB (l_isi (K := K)) call_isi (by rfl) W.B.isinstance (by decide +kernel) (pah_cons (ph_var (pv 0)) (pah_cons (ph_c (pe_bltn (v := .ty "bool") (u := .type "bool") (by rfl) W.B.bool (by decide +kernel) rfl)) pah_nil))))))), ?_⟩
  rintro ds A Q ⟨X, d, rfl, h, q⟩
  cases h with
  | int i h => walk_at "go"; exact q
  | bl b => walk_at "go"; exact q
  | non => walk_at "go"; exact q
  | str s h => walk_at "go"; exact q
  | tup i h => walk_at "go"; exact q
  | lst i h n e => walk_at "go"; exact q
  | dct n e => walk_at "go"; exact q
theorem ok_law_whole {P : Program} {w : World} {K : PySem.W.Frag} {mg : Str → Option Value} {base : Heap} (W : Wd K mg) : FnOk P w K mg base CX0 5 W.f_law_whole W.d_law_whole ["_law_thing"] (spOf K 1 (spWhole)) := by
  refine okH (k := 4) W.F_law_whole sc_law_whole fun cdv Ao outer s H E hr => have hu := hr.units; ⟨_, pssh_one (psh_ret (ph_and (ph_callB (l_isi (K := K)) call_isi (by rfl) W.B.isinstance (by decide +kernel) (pah_cons (ph_var (pv 0)) (pah_cons (ph_c (pe_bltn (v := .ty "int") (u := .type "int") (by rfl) W.B.int (by decide +kernel) rfl)) pah_nil))) (ph_one (ph_not (ph_callB (l_isi (K := K)) call_isi (by rfl) W.B.isinstance (by decide +kernel) (pah_cons (ph_var (pv 0)) (pah_cons (ph_c (pe_bltn (v := .ty "bool") (u := .type "bool") (by rfl) W.B.bool (by decide +kernel) rfl)) pah_nil))))))), ?_⟩
  rintro ds A Q ⟨X, d, rfl, h, q⟩
  cases h with
  | int i h => walk_at "go"; exact q
  | bl b => walk_at "go"; exact q
  | non => walk_at "go"; exact q
  | str s h => walk_at "go"; exact q
  | tup i h => walk_at "go"; exact q
  | lst i h n e => walk_at "go"; exact q
  | dct n e => walk_at "go"; exact q
/-- what is no tuple -/
inductive NT (A : OH) : D → Prop
  | lst {k : Nat} {ds : List D} (h : A[k]? = some (.lst ds)) : NT A (.ptr k)
  | dct {k : Nat} {kvs : List (Key × D)} (h : A[k]? = some (.dK kvs)) : NT A (.ptr k)
  | str (x : Str) : NT A (.v (.str x))
  | non : NT A (.v .non)
  | int (i : Int) : NT A (.v (.int i))
  | bl (b : Bool) : NT A (.v (.bl b))
theorem Th.two {X : List Nat} {A : OH} {d : D} (h : Th X A d) : (∃ ds, d = .tup ds) ∨ NT A d := by
  cases h with
  | road L n h => exact .inl ⟨_, rfl⟩
  | odd a b x n ha hb h => exact .inl ⟨_, rfl⟩
  | lst L n h nj e => exact .inr (.lst e)
  | it _ h =>
    cases h with
    | int i h => exact .inr (.int i)
    | bl b => exact .inr (.bl b)
    | non => exact .inr .non
    | str s h => exact .inr (.str _)
    | tup i h => exact .inl ⟨_, rfl⟩
    | lst i h n e => exact .inr (.lst e)
    | dct n e => exact .inr (.dct e)
def good (s f : Int) : D → Bool
  | .v (.int i) => decide (i = s) || decide (i = f)
  | _ => false
def valI : D → Int
  | .v (.int i) => i
  | _ => 0
instance (s m : Int) (w : Nat) (L : List Int) : Decidable (ofK' s m w L) := by unfold ofK'; infer_instance
instance (s m : Int) (w : Nat) (L : List Int) : Decidable (ofK s m w L) := by unfold ofK; infer_instance
def okK (s f m w : Int) : D → Bool
  | .tup ds => ds.all (good s f) && decide (ofK' s m w.toNat (ds.map valI))
  | _ => false
theorem NT.no {A : OH} {d : D} (h : NT A d) (s f m w : Int) : okK s f m w d = false := by cases h <;> rfl
theorem val_dI (L : List Int) : (dI L).map valI = L := by
  rw [dI, List.map_map]
  exact List.map_id _
theorem good_ints {s f : Int} : ∀ {ds : List D}, ds.all (good s f) = true → ∃ L, ds = dI L ∧ ∀ i ∈ L, i = s ∨ i = f
  | [], _ => ⟨[], rfl, fun _ h => nomatch h⟩
  | d :: ds, h => by
    rw [List.all_cons, Bool.and_eq_true] at h
    obtain ⟨L, rfl, hL⟩ := good_ints h.2
    cases d with
    | v x =>
      cases x with
      | int i =>
        have hi : i = s ∨ i = f := by
          have := h.1
          unfold good at this
          rw [Bool.or_eq_true, decide_eq_true_eq, decide_eq_true_eq] at this
          exact this
        exact ⟨i :: L, rfl, fun j hj => by
          rcases List.mem_cons.mp hj with rfl | hj
          · exact hi
          · exact hL j hj⟩
      | _ => cases h.1
    | _ => cases h.1
theorem inV_two (i s f : Int) : inV (.int i) [.int s, .int f] = good s f (.v (.int i)) := by
  have h := inV_ints i [s, f]
  rw [show ([s, f].map V.int) = [V.int s, V.int f] from rfl] at h
  rw [h]
  show decide (i ∈ [s, f]) = (decide (i = s) || decide (i = f))
  rw [← Bool.decide_or]
  exact decide_eq_decide.mpr (by simp)
theorem bools_of {g : D → Bool} : ∀ {ds acc : List D}, acc.length = ds.length → (∀ (i : Nat) (e : D), acc[i]? = some e → ∃ d, ds[i]? = some d ∧ e = .v (.bl (g d))) → acc = dB (ds.map g)
  | [], [], _, _ => rfl
  | d :: ds, e :: acc, hl, h => by
    obtain ⟨d', h1, h2⟩ := h 0 e rfl
    cases h1
    rw [h2, bools_of (ds := ds) (acc := acc) (by simpa using hl) fun i x hx => h (i + 1) x hx]
    rfl
structure KdOk (s f m w : Int) : Prop where
  s0 : 0 ≤ s
  sf : s < f
  f1 : f ≤ 1000
  m0 : 0 ≤ m
  m1 : m ≤ 6
  w1 : 1 ≤ w
  w6 : w ≤ 6
def spKind : Sph := fun ds A Q => ∃ X s f m w d, ds = [.tup (dI [s, f, m, w]), d] ∧ KdOk s f m w ∧ Th X A d ∧ ∀ A', Kq [] A A' → Q (.v (.bl (okK s f m w d))) A'
theorem ok_is_of_kind {P : Program} {w : World} {K : PySem.W.Frag} {mg : Str → Option Value} {base : Heap} (W : Wd K mg) : FnOk P w K mg base CX0 4 W.f_is_of_kind W.d_is_of_kind ["kind", "thing"] (spOf K 2 (spKind)) := by
  refine okH (k := 3) W.F_is_of_kind sc_is_of_kind fun cdv Ao outer s H E hr => have hu := hr.units; ⟨_, pssh_cons (psh_asg (lg_tup (lg_cons lg_name (lg_cons lg_name (lg_cons lg_name (lg_cons lg_name lg_nil)))) (len_cons goes_name (len_cons goes_name (len_cons goes_name (len_cons goes_name len_nil))))) (ph_var (pv 0)) (pg_tup rfl (pgs_cons (pg_name (i := 2) sc_is_of_kind.nd rfl (Or.inr rfl)) (pgs_cons (pg_name (i := 3) sc_is_of_kind.nd rfl (Or.inr rfl)) (pgs_cons (pg_name (i := 4) sc_is_of_kind.nd rfl (Or.inl rfl)) (pgs_cons (pg_name (i := 5) sc_is_of_kind.nd rfl (Or.inl rfl)) (pgs_nil)))))))
    (pssh_cons (psh_if (pth_not (pth_val (ph_callB (l_isi (K := K)) call_isi (by rfl) W.B.isinstance (by decide +kernel) (pah_cons (ph_var (pv 1)) (pah_cons (ph_c (pe_bltn (v := .ty "tuple") (u := .type "tuple") (by rfl) W.B.tuple (by decide +kernel) rfl)) pah_nil))))) (pssh_one (psh_ret (ph_c pe_bl))) (pssh_nil))
    (pssh_cons (psh_if (pth_not (pth_val (ph_callB l_all (cr_all rfl) (by rfl) W.B.all (by decide +kernel) (pah_cons (pj_lc (own := [("speed", 6)]) lg_name (keeps_name (by decide)) rfl sc_is_of_kind.nd (pih_seq (ph_var (pv 1))) (blkOk_by (own := [("speed", 6)]) (N := ["kind", "thing", "slow", "fast", "many", "wide", "speed", "window", "at"]) (sc := defScope s_is_of_kind) (by decide +kernel)) (fun _ _ _ _ _ => pg_name (i := 6) sc_is_of_kind.nd rfl (Or.inl rfl)) (fun _ _ _ _ _ => ptsh_nil) (fun _ _ _ _ _ => ph_and (ph_callO (ok_is_whole W) (hr.mono (by decide)) (by rfl) W.m_is_whole W.F_is_whole.kp W.b_is_whole (pah_cons (ph_var (pv 6)) pah_nil)) (ph_one (ph_cmp l_inF op_in_seq (ph_var (pv 6)) (ph_tup (pah_cons (ph_var (pv 2)) (pah_cons (ph_var (pv 3)) pah_nil))) (by rfl))))) pah_nil)))) (pssh_one (psh_ret (ph_c pe_bl))) (pssh_nil))
    (pssh_cons (psh_set (i := 7) sc_is_of_kind.nd rfl (Or.inl rfl) (ph_c pe_int))
    (pssh_cons (psj_for (lg_tup (lg_cons lg_name (lg_cons lg_name lg_nil)) (len_cons goes_name (len_cons goes_name len_nil))) PassesOwn.never rfl (pih_enumerate (by rfl) W.B.enumerate (pah_cons (ph_var (pv 1)) pah_nil)) (pg_tup rfl (pgs_cons (pg_name (i := 8) sc_is_of_kind.nd rfl (Or.inl rfl)) (pgs_cons (pg_name (i := 6) sc_is_of_kind.nd rfl (Or.inl rfl)) (pgs_nil)))) (pssh_cons (psh_aug (i := 7) sc_is_of_kind.nd rfl (Or.inl rfl) (ph_ifExp (pth_cmp l_eq (op_eqA hu) (ph_var (pv 6)) (ph_var (pv 2)) (nomark _)) (ph_c pe_int) (ph_c pe_int)) ip_add)
      (pssh_cons (psj_if (PW.pt (pwh_and (pth_cmp l_ge op_ge (ph_var (pv 8)) (ph_var (pv 5)) (nomark _)) (pwh_and1 (pth_cmp l_eq (op_eqA hu) (ph_ix l_ix ix_seq (ph_var (pv 1)) (ph_op l_sub op_sub (ph_var (pv 8)) (ph_var (pv 5))) (fun _ _ => rfl)) (ph_var (pv 2)) (nomark _))))) (pssh_one (psh_aug (i := 7) sc_is_of_kind.nd rfl (Or.inl rfl) (ph_c pe_int) ip_sub)) (pssh_nil))
      (pssh_one (psh_if (pth_cmp l_gt op_gt (ph_var (pv 7)) (ph_var (pv 4)) (nomark _)) (pssh_one (psh_ret (ph_c pe_bl))) (pssh_nil))))))
    (pssh_one (psh_ret (ph_c pe_bl))))))), ?_⟩
  rintro ds A Q ⟨X, s, f, m, w, d, rfl, O, hd, q⟩
  rcases hd.two with ⟨es, rfl⟩ | nt
  · obtain ⟨hl, hi⟩ := hd.items
    walk_at "go"
    refine LcQ.rel (fun A' => A' = A) (fun i e => ∃ d, es[i]? = some d ∧ e = .v (.bl (good s f d))) (by show es.length ≤ 100000; omega) rfl (fun _ _ => trivial) ?_ ?_
    · rintro i d h1 h2 A' kt kf rfl k
      have h2 : es[i]? = some d := h2
      have hit := hi d (List.mem_of_getElem? h2)
      walk_at "go"
      refine ⟨X, d, rfl, hit, ?_⟩
      have k' := k _ A' ⟨d, h2, rfl⟩ rfl
      cases hit with
      | int i h =>
        walk_at "go"
        refine .t ?_
        walk_at "go"
        exact ⟨[.int s, .int f], rfl, rfl, rfl, by
          have ei : inV (.int i) [.int s, .int f] = good s f (.v (.int i)) := inV_two i s f
          show kt (.v (.bl (inV (.int i) [.int s, .int f]))) A'
          rw [ei]
          exact k'⟩
      | bl b => walk_at "go"; first | exact k' | exact .f k'
      | non => walk_at "go"; first | exact k' | exact .f k'
      | str s h => walk_at "go"; first | exact k' | exact .f k'
      | tup i h => walk_at "go"; first | exact k' | exact .f k'
      | lst i h n e => walk_at "go"; first | exact k' | exact .f k'
      | dct n e => walk_at "go"; first | exact k' | exact .f k'
    · rintro acc A' hlen hr rfl
      have ea := bools_of (ds := es) hlen hr
      subst ea
      walk_at "go"
      rename_i k1 A1 n1 e1 l1
      have q1 : Kq [] A' A1 := (Kq.refl _ _).new n1
      clear n1
      have eal : (es.map (good s f)).all id = es.all (good s f) := by rw [List.all_map]; rfl
      rw [eal]
      refine .of (fun c => ?_) (fun c => ?_)
      · rw [Bool.not_eq_true'] at c
        have q' := q A1 q1
        have e : okK s f m w (.tup es) = false := by show (es.all (good s f) && _) = false; rw [c]; rfl
        rw [e] at q'
        walk_at "go"
        exact q'
      · rw [Bool.not_eq_false'] at c
        obtain ⟨L, rfl, hL⟩ := good_ints c
        have e : okK s f m w (.tup (dI L)) = decide (ofK' s m w.toNat L) := by
          show ((dI L).all (good s f) && decide (ofK' s m w.toNat ((dI L).map valI))) = _
          rw [c, val_dI]
          rfl
        rw [e] at q
        rw [List.length_map] at hl
        have hb : ∀ i ∈ L, Bd i := fun i hi => by
          have := O.s0; have := O.sf; have := O.f1
          rcases hL i hi with rfl | rfl <;> exact ⟨by omega, by omega⟩
        clear hi hd eal hlen hr
        have w1 := O.w1
        have w6 := O.w6
        have m0 := O.m0
        have m1 := O.m1
        obtain ⟨w, rfl⟩ := Int.eq_ofNat_of_zero_le (show 0 ≤ w by omega)
        have dd : decide (ofK' s m w L) = decide (ofK s m w L) := decide_eq_decide.mpr (ofK_iff (by omega)).symm
        rw [show ((w : Nat) : Int).toNat = w from rfl, dd] at q
        walk_at "go"
        refine ForQ.s3 6 7 8 (fun i x6 x7 x8 A' => A' = A1 ∧ x7 = some (.v (.int (winS s w L i))) ∧ ∀ j, j < i → (winS s w L (j + 1) : Int) ≤ m) ⟨_, _, _, rfl, rfl, by rw [winS_zero]; rfl, fun j hj => absurd hj (Nat.not_lt_zero j)⟩ (fun _ _ _ _ _ _ _ => trivial) ?_ ?_
        · rintro i d x6 x7 x8 A2 hi hd ⟨rfl, rfl, hj⟩
          obtain ⟨x, hx, rfl⟩ := item_E hd
          have hi' : i < L.length := (List.getElem?_eq_some_iff.mp hx).1
          have ws := winS_succ (s := s) (w := w) (by omega) hx
          have wl := winS_le s w L i
          have wl1 := winS_le s w L (i + 1)
          have ay : w ≤ i → ∃ y, L[i - w]? = some y ∧ atI (dI L) ((i : Int) - (w : Int)) = some (.v (.int y)) := fun h => by
            have h2 : i - w < L.length := by omega
            refine ⟨L[i - w], List.getElem?_eq_getElem h2, ?_⟩
            rw [show (i : Int) - (w : Int) = ((i - w : Nat) : Int) by omega]
            exact atI_nat (by rw [List.getElem?_map, List.getElem?_eq_getElem h2]; rfl)
          walk_at "go"
          refine .d (fun cx => ?_) (fun cx => ?_)
          · rw [if_pos cx] at ws
            walk_at "go"
            refine .go ?_
            walk_at "go"
            refine .d (fun cw => ?_) (fun cw => ?_)
            · obtain ⟨y, hy, ay⟩ := ay (by omega)
              walk_at "go"
              refine .d (fun cy => ?_) (fun cy => ?_)
              · rw [if_pos ⟨by omega, by rw [hy, cy]⟩] at ws
                walk_at "go"
                have e9 : ((winS s w L i : Nat) : Int) + 1 - 1 = ((winS s w L (i + 1) : Nat) : Int) := by omega
                try dsimp only
                rw [e9]
                refine .d (fun cz => ?_) (fun cz => ?_)
                · have no : ¬ ofK s m w L := fun z => by have := z i hi'; omega
                  rw [decide_eq_false no] at q
                  walk_at "go"
                  exact q _ q1
                · walk_at "go"
                  exact .mk ⟨_, _, _, by walk_at "sq", rfl, rfl, fun j hj' => by
                    rcases Nat.lt_or_ge j i with h | h
                    · exact hj j h
                    · rw [show j = i by omega]; omega⟩
              · rw [if_neg (fun z => cy (Option.some.inj (hy.symm.trans z.2)))] at ws
                walk_at "go"
                have e9 : ((winS s w L i : Nat) : Int) + 1 = ((winS s w L (i + 1) : Nat) : Int) := by omega
                try dsimp only
                rw [e9]
                refine .d (fun cz => ?_) (fun cz => ?_)
                · have no : ¬ ofK s m w L := fun z => by have := z i hi'; omega
                  rw [decide_eq_false no] at q
                  walk_at "go"
                  exact q _ q1
                · walk_at "go"
                  exact .mk ⟨_, _, _, by walk_at "sq", rfl, rfl, fun j hj' => by
                    rcases Nat.lt_or_ge j i with h | h
                    · exact hj j h
                    · rw [show j = i by omega]; omega⟩
            · rw [if_neg (fun z => cw (by omega))] at ws
              walk_at "go"
              have e9 : ((winS s w L i : Nat) : Int) + 1 = ((winS s w L (i + 1) : Nat) : Int) := by omega
              try dsimp only
              rw [e9]
              refine .d (fun cz => ?_) (fun cz => ?_)
              · have no : ¬ ofK s m w L := fun z => by have := z i hi'; omega
                rw [decide_eq_false no] at q
                walk_at "go"
                exact q _ q1
              · walk_at "go"
                exact .mk ⟨_, _, _, by walk_at "sq", rfl, rfl, fun j hj' => by
                  rcases Nat.lt_or_ge j i with h | h
                  · exact hj j h
                  · rw [show j = i by omega]; omega⟩
          · rw [if_neg cx] at ws
            walk_at "go"
            refine .go ?_
            walk_at "go"
            refine .d (fun cw => ?_) (fun cw => ?_)
            · obtain ⟨y, hy, ay⟩ := ay (by omega)
              walk_at "go"
              refine .d (fun cy => ?_) (fun cy => ?_)
              · rw [if_pos ⟨by omega, by rw [hy, cy]⟩] at ws
                walk_at "go"
                have e9 : ((winS s w L i : Nat) : Int) + 0 - 1 = ((winS s w L (i + 1) : Nat) : Int) := by omega
                try dsimp only
                rw [e9]
                refine .d (fun cz => ?_) (fun cz => ?_)
                · have no : ¬ ofK s m w L := fun z => by have := z i hi'; omega
                  rw [decide_eq_false no] at q
                  walk_at "go"
                  exact q _ q1
                · walk_at "go"
                  exact .mk ⟨_, _, _, by walk_at "sq", rfl, rfl, fun j hj' => by
                    rcases Nat.lt_or_ge j i with h | h
                    · exact hj j h
                    · rw [show j = i by omega]; omega⟩
              · rw [if_neg (fun z => cy (Option.some.inj (hy.symm.trans z.2)))] at ws
                walk_at "go"
                have e9 : ((winS s w L i : Nat) : Int) + 0 = ((winS s w L (i + 1) : Nat) : Int) := by omega
                try dsimp only
                rw [e9]
                refine .d (fun cz => ?_) (fun cz => ?_)
                · have no : ¬ ofK s m w L := fun z => by have := z i hi'; omega
                  rw [decide_eq_false no] at q
                  walk_at "go"
                  exact q _ q1
                · walk_at "go"
                  exact .mk ⟨_, _, _, by walk_at "sq", rfl, rfl, fun j hj' => by
                    rcases Nat.lt_or_ge j i with h | h
                    · exact hj j h
                    · rw [show j = i by omega]; omega⟩
            · rw [if_neg (fun z => cw (by omega))] at ws
              walk_at "go"
              have e9 : ((winS s w L i : Nat) : Int) + 0 = ((winS s w L (i + 1) : Nat) : Int) := by omega
              try dsimp only
              rw [e9]
              refine .d (fun cz => ?_) (fun cz => ?_)
              · have no : ¬ ofK s m w L := fun z => by have := z i hi'; omega
                rw [decide_eq_false no] at q
                walk_at "go"
                exact q _ q1
              · walk_at "go"
                exact .mk ⟨_, _, _, by walk_at "sq", rfl, rfl, fun j hj' => by
                  rcases Nat.lt_or_ge j i with h | h
                  · exact hj j h
                  · rw [show j = i by omega]; omega⟩
        · rintro x6 x7 x8 A2 ⟨rfl, rfl, hj⟩
          have en : (srcE (dI L) fun _ => True).n = L.length := List.length_map _
          rw [en] at hj
          rw [decide_eq_true (show ofK s m w L from hj)] at q
          walk_at "go"
          exact q _ q1
  · have no := nt.no s f m w
    have q' := q A (Kq.refl _ _)
    rw [no] at q'
    cases nt with
    | lst h => walk_at "go"; exact q'
    | dct h => walk_at "go"; exact q'
    | str x => walk_at "go"; exact q'
    | non => walk_at "go"; exact q'
    | int i => walk_at "go"; exact q'
    | bl b => walk_at "go"; exact q'
end Rp

/-! k43: what the law asks of a thing. -/
namespace Rp
open PySem PySem.Spec PyProof.Rows L2
local macro_rules | `(tactic| walk_at "vd") => `(tactic| rfl)
local macro_rules | `(tactic| walk_at "w") => `(tactic| (conv => whnf))
local macro_rules | `(tactic| walk_at "ni") => `(tactic| first | exact ni0 | (refine ni2 ?_ ?_ <;> omega) | (refine ni1 ?_ <;> omega) | (refine ni3 ?_ ?_ ?_ <;> omega))
local macro_rules | `(tactic| walk_at "hp") => `(tactic| first | assumption | exact New.get (by assumption) | exact Put.get (by assumption) | (refine New.old (by assumption) ?_; walk_at "hp") | (refine Kq.old0 (by assumption) ?_; walk_at "hp") | (refine Kq.old (by assumption) (by walk_at "ni") ?_; walk_at "hp") | (refine Put.old (by assumption) (by omega) ?_; walk_at "hp"))
local macro_rules | `(tactic| walk_at "kq") => `(tactic| first | exact Kq.refl _ _ | assumption | (refine Kq.new ?_ (by assumption); walk_at "kq") | (refine Kq.putO ?_ (by assumption) (by omega); walk_at "kq") | (refine Kq.putM ?_ (by assumption) (by simp); walk_at "kq") | (refine Kq.trans0 ?_ (by assumption); walk_at "kq") | (refine Kq.trans ?_ (by assumption); walk_at "kq"))
local macro_rules | `(tactic| walk_at "nw") => `(tactic| (intro k A' n; have e := New.eq n; have l := New.len n))
local macro_rules | `(tactic| walk_at "pt") => `(tactic| (intro A' p; have l := Put.len p))
local macro_rules | `(tactic| walk_at "ix") => `(tactic| first | rfl | assumption | exact at_zero)
local macro_rules | `(tactic| walk_at "ar") => `(tactic| first | omega | exact True.intro | assumption | decide | exact Or.inl ⟨by omega, by omega⟩ | exact Or.inr ⟨by omega, by omega⟩ | exact ⟨by omega, by omega⟩ | exact ⟨by decide, by decide, by decide⟩ | (simp only [List.length_map, List.length_append, List.length_cons, List.length_nil, List.length_range, List.length_replicate, List.length_zip, List.length_drop, List.length_take]; omega) | (rw [sizeLine_eq]; first | decide | (simp; done) | (simp; omega)) | (simp; done))
local macro_rules | `(tactic| walk_at "br") => `(tactic| first | (with_reducible refine Br.t ?_) | (with_reducible refine Br.f ?_) | ((with_reducible refine Br.nf ?_ ?_); (first | with_reducible rfl | assumption | omega | exact (rfl : (_ : Int) = _))) | ((with_reducible refine Br.dt ?_ ?_); (first | assumption | omega | exact (rfl : (_ : Int) = _))) | ((with_reducible refine Br.df ?_ ?_); (first | assumption | omega)) | ((with_reducible refine Br.nt ?_ ?_); (first | assumption | omega)) | ((with_reducible refine Br.yes_of ?_ ?_); (first | with_reducible rfl | assumption | decide | (simp only [List.isEmpty_cons, List.isEmpty_nil, Bool.not_true, Bool.not_false]; done))) | ((with_reducible refine Br.no_of ?_ ?_); (first | with_reducible rfl | assumption | decide | (simp only [List.isEmpty_cons, List.isEmpty_nil, Bool.not_true, Bool.not_false]; done))))
local macro_rules | `(tactic| walk_at "ask") => `(tactic| fail)
local macro_rules | `(tactic| walk_at "ty") => `(tactic| first | exact TyD.int _ | exact TyD.bl _ | exact TyD.non | exact TyD.str _ | exact TyD.tup _ | (apply TyD.lst; walk_at "hp") | (apply TyD.dK; walk_at "hp") | (apply tyd_ins; assumption; assumption; walk_at "hp"))
local macro_rules | `(tactic| walk_at "isi") => `(tactic| (apply Exists.intro; apply Exists.intro; apply Exists.intro; apply And.intro; (first | exact ClsV.ty _ | exact ClsV.own _); apply And.intro; (walk_at "ty"); apply And.intro; (first | exact rfl | exact kit_self)))
local macro_rules | `(tactic| walk_at "ex") => `(tactic| first | (apply Exists.intro; apply Exists.intro; apply Exists.intro; apply And.intro; (walk_at "hp"); apply And.intro; (exact rfl); apply And.intro; (walk_at "vd")) | (apply Exists.intro; apply Exists.intro; apply And.intro; (walk_at "hp"); apply And.intro; (walk_at "hp"); apply And.intro; (first | walk_at "ar" | (simp only [sizeLine_eq, List.length_cons, List.length_nil, List.length_map, List.length_append]; omega))) | (apply Exists.intro; apply Exists.intro; apply And.intro; (walk_at "hp"); apply And.intro; (exact rfl)) | (apply Exists.intro; apply Exists.intro; apply And.intro; (walk_at "hp")) | (apply Exists.intro; apply And.intro; (walk_at "hp"); apply And.intro; (walk_at "ar")) | (apply Exists.intro; apply And.intro; (walk_at "hp"); apply And.intro; (exact rfl)) | (apply Exists.intro; apply And.intro; (walk_at "hp")) | (apply Exists.intro; apply And.intro; (walk_at "ix")))
local macro_rules | `(tactic| walk_at "an") => `(tactic| first | (apply And.intro; (exact Exists.intro _ (by walk_at "hp"))) | (apply And.intro; (walk_at "ar")))
local macro_rules | `(tactic| walk_at "dp") => `(tactic| first | exact DP.bl _ | exact DP.int _ | exact DP.non | exact DP.str _ | (apply DP.tup; walk_at "dps") | (apply DP.lst; (walk_at "hp"); (walk_at "dps")))
local macro_rules | `(tactic| walk_at "dps") => `(tactic| first | exact DPs.nil | (apply DPs.cons; (walk_at "dp"); (walk_at "dps")) | exact dps_ints | exact dps_bools)
local macro_rules | `(tactic| walk_at "sw") => `(tactic| first | exact Sw.bl0 | (apply Sw.int0; exact ⟨by omega, by omega⟩) | exact Sw.non0 | (apply Sws.tup; walk_at "sws") | (apply Sws.lst; walk_at "sws") | (apply Sw.str0; decide +kernel))
local macro_rules | `(tactic| walk_at "sws") => `(tactic| first | exact Sws.nil0 | (apply Sws.cons; (walk_at "sw"); (walk_at "sws")) | (apply Sws.ints; assumption) | exact Sws.bools)
local macro_rules | `(tactic| walk_at "shw") => `(tactic| exact Sw.shw (n := 12) (by walk_at "sw") (by decide) (by first | decide | omega))
local macro_rules | `(tactic| walk_at "shp") => `(tactic| exact Sw.shaped (n := 12) (by walk_at "sw") (by decide))
local macro_rules | `(tactic| walk_at "rp") => `(tactic| first | (apply Exists.intro; apply And.intro; (walk_at "dp"); apply And.intro; (walk_at "shw")) | (apply Exists.intro; apply And.intro; (apply Exists.intro; apply Exists.intro; apply And.intro; (walk_at "dp"); apply And.intro; (walk_at "dp"); apply And.intro; (walk_at "shp"); apply And.intro; (walk_at "shp"); (exact rfl))))
local macro_rules | `(tactic| walk_at "st") => `(tactic| ((conv => whnf); first | walk_at "br" | ((with_reducible refine IfQ.go ?_); (conv => whnf); walk_at "br") | walk_at "nw" | walk_at "pt" | ((with_reducible show Ask _ _ _ _); walk_at "ask") | ((with_reducible show Exists _); first | walk_at "ex" | walk_at "isi" | walk_at "rp") | ((with_reducible show And _ _); walk_at "an") | ((with_reducible show Or _ _); apply Or.inl; apply Exists.intro; apply And.intro; (walk_at "hp"))))
local macro_rules | `(tactic| walk_at "s0") => `(tactic| try ((first | dsimp only [startH] | dsimp only [startHN]); dsimp only [sl_lenC, sl_lenN, sl_mapC, sl_mapN, Nat.reduceAdd, Nat.reduceSub, sl_repS, sl_rep0, sl_appC, sl_appN]))
local macro_rules | `(tactic| walk_at "sn") => `(tactic| try dsimp only [sl_set0, sl_setS])
local macro_rules | `(tactic| walk_at "go") => `(tactic| (walk_at "s0"; walk_at "sn"; (repeat walk_at "st"); (try (conv => whnf))))
local macro_rules | `(tactic| walk_at "lv") => `(tactic| first | exact True.intro | (show _[_]? = some _; walk_at "hp"))
local macro_rules | `(tactic| walk_at "rg") => `(tactic| (refine gI_all ?_ (by first | exact (i01 _).1 | omega) (by first | exact (i01 _).2 | (simp only [List.length_cons, List.length_nil]; omega)); intro x hx; simp only [List.mem_cons, List.not_mem_nil, or_false] at hx; omega))
local macro_rules | `(tactic| walk_at "sq") => `(tactic| (refine Seq.eq ?_; (try dsimp only [sl_set0, sl_setS]); repeat (first | (with_reducible exact Seq.nil) | (with_reducible refine Seq.cons (by rfl) ?_) | exact Seq.nil | (refine Seq.cons (by rfl) ?_))))
local macro_rules | `(tactic| walk_at "pt") => `(tactic| (intro A' p; have l := Put.len p; try rw [pd_at] at p))
local macro_rules | `(tactic| walk_at "vd") => `(tactic| first | exact vd_cells | exact vd_seed | exact vd_at)
local macro_rules | `(tactic| walk_at "dk0") => `(tactic| first | assumption | exact DeckW.new' (by assumption) (by walk_at "dk0") | exact DeckW.kq' (by assumption) (by walk_at "dk0") | exact DeckW.put' (by assumption) (by walk_at "dk0") (by omega) (by omega))
local macro_rules | `(tactic| walk_at "dk") => `(tactic| (refine DeckW.mono (by walk_at "dk0") ?_; omega))
local macro_rules | `(tactic| walk_at "ask") => `(tactic| (refine ask_draw (by walk_at "dk0") (by omega) (by omega) (by omega) ?_; intro d A' d0 d1 D q; have l := Kq.len q))
local macro_rules | `(tactic| walk_at "hp") => `(tactic| first | assumption | exact New.get (by assumption) | exact Put.get (by assumption) | (refine New.old (by assumption) ?_; walk_at "hp") | (refine Kq.old0 (by assumption) ?_; walk_at "hp") | (refine Kq.old_insW (by assumption) (by walk_at "dk0") ?_; walk_at "hp") | (refine Kq.old_tabW (by assumption) (by walk_at "dk0") ?_; walk_at "hp") | (refine Kq.old (by assumption) (by walk_at "ni") ?_; walk_at "hp") | (refine Put.old (by assumption) (by omega) ?_; walk_at "hp"))
theorem cut_win (L : List Int) (k w : Nat) (hk : k ≤ L.length) : cutD (dI L) (some (k : Int)) (some ((k : Int) + (w : Int))) = dI ((L.drop k).take w) := by
  rw [cutD_dI]
  unfold cutI
  rw [show ((k : Int) + (w : Int)) = ((k + w : Nat) : Int) by omega, HT.sIx_nat, HT.sIx_nat, Nat.min_eq_left hk]
  congr 1
  by_cases c : k + w ≤ L.length
  · rw [Nat.min_eq_left c, show k + w - k = w by omega]
  · rw [Nat.min_eq_right (by omega), List.take_of_length_le (by rw [List.length_drop]; omega), List.take_of_length_le (by rw [List.length_drop]; omega)]
theorem ok_law_due {P : Program} {w : World} {K : PySem.W.Frag} {mg : Str → Option Value} {base : Heap} (W : Wd K mg) : FnOk P w K mg base CX0 6 W.f_law_due W.d_law_due ["_law_kind_here", "_law_thing"] (spOf K 2 (spKind)) := by
  refine okH (k := 5) W.F_law_due sc_law_due fun cdv Ao outer s H E hr => have hu := hr.units; ⟨_, pssh_cons (psh_asg (lg_tup (lg_cons lg_name (lg_cons lg_name (lg_cons lg_name (lg_cons lg_name lg_nil)))) (len_cons goes_name (len_cons goes_name (len_cons goes_name (len_cons goes_name len_nil))))) (ph_var (pv 0)) (pg_tup rfl (pgs_cons (pg_name (i := 2) sc_law_due.nd rfl (Or.inr rfl)) (pgs_cons (pg_name (i := 3) sc_law_due.nd rfl (Or.inr rfl)) (pgs_cons (pg_name (i := 4) sc_law_due.nd rfl (Or.inl rfl)) (pgs_cons (pg_name (i := 5) sc_law_due.nd rfl (Or.inl rfl)) (pgs_nil)))))))
    (pssh_cons (psh_if (pth_not (pth_val (ph_callB (l_isi (K := K)) call_isi (by rfl) W.B.isinstance (by decide +kernel) (pah_cons (ph_var (pv 1)) (pah_cons (ph_c (pe_bltn (v := .ty "tuple") (u := .type "tuple") (by rfl) W.B.tuple (by decide +kernel) rfl)) pah_nil))))) (pssh_one (psh_ret (ph_c pe_bl))) (pssh_nil))
    (pssh_cons (psh_if (pth_cmp l_ne (op_neA hu) (pj_lc (own := [("_law_one", 6)]) lg_name (keeps_name (by decide)) rfl sc_law_due.nd (pih_seq (ph_var (pv 1))) (blkOk_by (own := [("_law_one", 6)]) (N := ["_law_kind_here", "_law_thing", "_law_slow", "_law_fast", "_law_many", "_law_wide", "_law_one", "_law_k"]) (sc := defScope s_law_due) (by decide +kernel)) (fun _ _ _ _ _ => pg_name (i := 6) sc_law_due.nd rfl (Or.inl rfl)) (fun _ _ _ _ _ => ptsh_one (PW.pt (pwh_or (pth_not (pth_val (ph_callO (ok_law_whole W) (hr.mono (by decide)) (by rfl) W.m_law_whole W.F_law_whole.kp W.b_law_whole (pah_cons (ph_var (pv 6)) pah_nil)))) (pwh_or1 (pth_cmp l_inF op_notIn_seq (ph_var (pv 6)) (ph_tup (pah_cons (ph_var (pv 2)) (pah_cons (ph_var (pv 3)) pah_nil))) (by rfl)))))) (fun _ _ _ _ _ => ph_c pe_int)) (ph_lst (pah_nil)) (nomark _)) (pssh_one (psh_ret (ph_c pe_bl))) (pssh_nil))
    (pssh_cons (psj_for lg_name PassesOwn.never rfl (pih_range1 (by rfl) W.B.range (pah_cons (ph_callB l_len call_len (by rfl) W.B.len PySem.boot_len (pah_cons (ph_var (pv 1)) pah_nil)) pah_nil)) (pg_name (i := 7) sc_law_due.nd rfl (Or.inl rfl)) (pssh_one (psh_if (pth_cmp l_gt op_gt (ph_callB l_len call_len (by rfl) W.B.len PySem.boot_len (pah_cons (pj_lc (own := [("_law_one", 6)]) lg_name (keeps_name (by decide)) rfl sc_law_due.nd (pih_seq (ph_slice (ph_var (pv 1)) (poh_some (ph_var (pv 7))) (poh_some (ph_op l_add op_addA (ph_var (pv 7)) (ph_var (pv 5)))))) (blkOk_by (own := [("_law_one", 6)]) (N := ["_law_kind_here", "_law_thing", "_law_slow", "_law_fast", "_law_many", "_law_wide", "_law_one", "_law_k"]) (sc := defScope s_law_due) (by decide +kernel)) (fun _ _ _ _ _ => pg_name (i := 6) sc_law_due.nd rfl (Or.inl rfl)) (fun _ _ _ _ _ => ptsh_one (pth_cmp l_eq (op_eqA hu) (ph_var (pv 6)) (ph_var (pv 2)) (nomark _))) (fun _ _ _ _ _ => ph_c pe_int)) pah_nil)) (ph_var (pv 4)) (nomark _)) (pssh_one (psh_ret (ph_c pe_bl))) (pssh_nil))))
    (pssh_one (psh_ret (ph_c pe_bl)))))), ?_⟩
  rintro ds A Q ⟨X, s, f, m, w, d, rfl, O, hd, q⟩
  rcases hd.two with ⟨es, rfl⟩ | nt
  · obtain ⟨hl, hi⟩ := hd.items
    walk_at "go"
    refine LcQ.filter0 (xs := es) (f := fun d : D => d) (itm_T' (List.map_id es).symm) (fun d => !(good s f d)) (fun _ => .v (.int 1)) (by omega) trivial (fun i d h1 h2 kt kf k1 k2 => ?_) ?_
    · have hit := hi d (List.mem_of_getElem? h2)
      walk_at "go"
      refine ⟨X, d, rfl, hit, ?_⟩
      cases hit with
      | int i h =>
        walk_at "go"
        refine .f ?_
        walk_at "go"
        refine ⟨[.int s, .int f], rfl, rfl, rfl, ?_⟩
        have ei : inV (.int i) [.int s, .int f] = good s f (.v (.int i)) := inV_two i s f
        show Br (!(inV (.int i) [.int s, .int f])) _ _
        rw [ei]
        refine .of (fun e => ?_) (fun e => ?_)
        · walk_at "go"; exact k1 e
        · walk_at "go"; exact k2 e
      | bl b => walk_at "go"; first | exact k1 rfl | exact .t (k1 rfl) | (refine .t ?_; walk_at "go"; exact k1 rfl)
      | non => walk_at "go"; first | exact k1 rfl | exact .t (k1 rfl) | (refine .t ?_; walk_at "go"; exact k1 rfl)
      | str s h => walk_at "go"; first | exact k1 rfl | exact .t (k1 rfl) | (refine .t ?_; walk_at "go"; exact k1 rfl)
      | tup i h => walk_at "go"; first | exact k1 rfl | exact .t (k1 rfl) | (refine .t ?_; walk_at "go"; exact k1 rfl)
      | lst i h n e => walk_at "go"; first | exact k1 rfl | exact .t (k1 rfl) | (refine .t ?_; walk_at "go"; exact k1 rfl)
      | dct n e => walk_at "go"; first | exact k1 rfl | exact .t (k1 rfl) | (refine .t ?_; walk_at "go"; exact k1 rfl)
    walk_at "go"
    rename_i k1 A1 n1 e1 l1 k2 A2 n2 e2 l2
    have g1 : A2[k1]? = some (.lst (dI ((es.filter fun d => !(good s f d)).map fun _ => (1 : Int)))) := by
      rw [dI, List.map_map]
      exact n2.old n1.get
    refine ⟨_, EqD.ints g1 (ms := []) n2.get, ?_⟩
    have iff : ((es.filter fun d => !(good s f d)).map fun _ => (1 : Int)) = [] ↔ es.all (good s f) = true := by
      rw [List.map_eq_nil_iff, List.filter_eq_nil_iff, List.all_eq_true]
      exact ⟨fun h d hd => by have := h d hd; simpa using this, fun h d hd => by rw [h d hd]; decide⟩
    have dd : decide (((es.filter fun d => !(good s f d)).map fun _ => (1 : Int)) = []) = es.all (good s f) := by
      rw [Bool.eq_iff_iff, decide_eq_true_eq]
      exact iff
    rw [dd]
    have q2 : Kq [] A A2 := by walk_at "kq"
    clear n1 n2 g1 iff dd
    walk_at "go"
    refine .of (fun c => ?_) (fun c => ?_)
    · rw [Bool.not_eq_true'] at c
      have q' := q A2 q2
      have e : okK s f m w (.tup es) = false := by show (es.all (good s f) && _) = false; rw [c]; rfl
      rw [e] at q'
      walk_at "go"
      exact q'
    · rw [Bool.not_eq_false'] at c
      obtain ⟨L, rfl, hL⟩ := good_ints c
      have e : okK s f m w (.tup (dI L)) = decide (ofK' s m w.toNat L) := by
        show ((dI L).all (good s f) && decide (ofK' s m w.toNat ((dI L).map valI))) = _
        rw [c, val_dI]
        rfl
      rw [e] at q
      rw [List.length_map] at hl
      clear hi hd
      have w1 := O.w1
      have w6 := O.w6
      have m0 := O.m0
      have m1 := O.m1
      obtain ⟨w, rfl⟩ := Int.eq_ofNat_of_zero_le (show 0 ≤ w by omega)
      rw [show ((w : Nat) : Int).toNat = w from rfl] at q
      walk_at "go"
      rw [List.length_map]
      refine ForQ.s1 7 (fun i x7 A' => Kq [] A A' ∧ ∀ j, j < i → (cntS s ((L.drop j).take w) : Int) ≤ m) ⟨_, rfl, q2, fun j hj => absurd hj (Nat.not_lt_zero j)⟩ (fun _ _ _ _ _ => trivial) ?_ ?_
      · rintro i d x7 A3 hi hd ⟨q3, hj⟩
        cases item_R hd
        have hi' : i < L.length := hi
        rw [show (0 : Int) + (i : Nat) = (i : Nat) by omega]
        walk_at "go"
        rw [cut_win L i w (by omega)]
        have lw : ((L.drop i).take w).length ≤ 501 := by rw [List.length_take, List.length_drop]; omega
        refine LcQ.filter0 (xs := (L.drop i).take w) (f := fun n : Int => .v (.int n)) itm_T (fun x => decide (x = s)) (fun _ => .v (.int 1)) (by omega) trivial (fun i2 x h1 h2 kt kf k1 k2 => ?_) ?_
        · walk_at "go"
          refine .d (fun cc => ?_) (fun cc => ?_)
          · walk_at "go"; exact k1 (decide_eq_true cc)
          · walk_at "go"; exact k2 (decide_eq_false cc)
        · walk_at "go"
          rename_i k4 A4 n4 e4 l4
          have q4 := q3.new n4
          clear n4
          dsimp only
          rw [List.length_map, show ((L.drop i).take w).filter (fun x => decide (x = s)) = ((L.drop i).take w).filter (fun x => decide (x = s)) from rfl]
          show Br (decide (m < ((cntS s ((L.drop i).take w) : Nat) : Int))) _ _
          refine .d (fun cz => ?_) (fun cz => ?_)
          · have no : ¬ ofK' s m w L := fun z => by have := z i hi'; omega
            rw [decide_eq_false no] at q
            walk_at "go"
            exact q _ q4
          · walk_at "go"
            exact .mk ⟨_, by walk_at "sq", q4, fun j hj' => by
              rcases Nat.lt_or_ge j i with h | h
              · exact hj j h
              · rw [show j = i by omega]; omega⟩
      · rintro x7 A3 ⟨q3, hj⟩
        rw [decide_eq_true (show ofK' s m w L from hj)] at q
        walk_at "go"
        exact q _ q3
  · have no := nt.no s f m w
    have q' := q A (Kq.refl _ _)
    rw [no] at q'
    cases nt with
    | lst h => walk_at "go"; exact q'
    | dct h => walk_at "go"; exact q'
    | str x => walk_at "go"; exact q'
    | non => walk_at "go"; exact q'
    | int i => walk_at "go"; exact q'
    | bl b => walk_at "go"; exact q'
mutual
theorem dp_kq {A A' : OH} (q : Kq [] A A') : ∀ {d : D} {p : PyData}, DP A d p → DP A' d p
  | _, _, .non => .non
  | _, _, .bl b => .bl b
  | _, _, .int i => .int i
  | _, _, .str x => .str x
  | _, _, .tup h => .tup (dps_kq q h)
  | _, _, .lst h0 h => .lst (q.old0 h0) (dps_kq q h)
theorem dps_kq {A A' : OH} (q : Kq [] A A') : ∀ {d : List D} {p : List PyData}, DPs A d p → DPs A' d p
  | _, _, .nil => .nil
  | _, _, .cons h t => .cons (dp_kq q h) (dps_kq q t)
end
mutual
theorem dt_kq {A A' : OH} (q : Kq [] A A') : ∀ {d : D} {p : PyData}, DT A d p → DT A' d p
  | _, _, .non => .non
  | _, _, .bl b => .bl b
  | _, _, .int i => .int i
  | _, _, .str x => .str x
  | _, _, .tup h => .tup (dts_kq q h)
  | _, _, .dct h0 => .dct (q.old0 h0)
theorem dts_kq {A A' : OH} (q : Kq [] A A') : ∀ {d : List D} {p : List PyData}, DTs A d p → DTs A' d p
  | _, _, .nil => .nil
  | _, _, .cons h t => .cons (dt_kq q h) (dts_kq q t)
end
theorem ShwD.kq {A A' : OH} (q : Kq [] A A') {d : D} {p : PyData} (h : ShwD A d p) : ShwD A' d p := h.imp (fun h => ⟨dp_kq q h.1, h.2⟩) fun h => ⟨dt_kq q h.1, h.2⟩
def spRight : Sph := fun ds A Q => ∃ X s f m w d, ds = [.tup (dI [s, f, m, w]), d] ∧ KdOk s f m w ∧ Th X A d ∧ ∀ A', Kq [] A A' → Q (.v (.bl true)) A'
theorem kq_any {X : List Nat} {A A' : OH} (q : Kq [] A A') : Kq X A A' := q.any
theorem ok_law_right {P : Program} {w : World} {K : PySem.W.Frag} {mg : Str → Option Value} {base : Heap} (W : Wd K mg) : FnG P w K mg base CX0 7 W.f_law_right W.d_law_right ["_law_kind_here", "_law_thing"] (spOf K 2 (spRight)) := by
  refine okGH (k := 6) W.F_law_right sc_law_right fun cdv Ao outer s H E gA hr => have hu := hr.units; ⟨_, pssh_cons (psh_set (i := 2) sc_law_right.nd rfl (Or.inl rfl) (ph_callB l_reprE (call_reprE gA hu) (by rfl) W.B.repr boot_repr (pah_cons (ph_var (pv 1)) pah_nil)))
    (pssh_cons (psj_for lg_name PassesOwn.never rfl (pih_range1 (by rfl) W.B.range (pah_cons (ph_c pe_int) pah_nil)) (pg_name (i := 3) sc_law_right.nd rfl (Or.inl rfl)) (pssh_cons (psh_set (i := 4) sc_law_right.nd rfl (Or.inl rfl) (ph_callO (ok_is_of_kind W) (hr.mono (by decide)) (by rfl) W.m_is_of_kind W.F_is_of_kind.kp W.b_is_of_kind (pah_cons (ph_var (pv 0)) (pah_cons (ph_var (pv 1)) pah_nil))))
      (pssh_one (psh_if (PW.pt (pwh_or (pth_not (pth_val (ph_callB (l_isi (K := K)) call_isi (by rfl) W.B.isinstance (by decide +kernel) (pah_cons (ph_var (pv 4)) (pah_cons (ph_c (pe_bltn (v := .ty "bool") (u := .type "bool") (by rfl) W.B.bool (by decide +kernel) rfl)) pah_nil))))) (pwh_or (pth_cmp l_ne (op_neA hu) (ph_var (pv 4)) (ph_callO (ok_law_due W) (hr.mono (by decide)) (by rfl) W.m_law_due W.F_law_due.kp W.b_law_due (pah_cons (ph_var (pv 0)) (pah_cons (ph_var (pv 1)) pah_nil))) (nomark _)) (pwh_or1 (pth_cmp l_ne (op_neA hu) (ph_callB l_reprE (call_reprE gA hu) (by rfl) W.B.repr boot_repr (pah_cons (ph_var (pv 1)) pah_nil)) (ph_var (pv 2)) (nomark _)))))) (pssh_one (psh_ret (ph_c pe_bl))) (pssh_nil)))))
    (pssh_one (psh_ret (ph_c pe_bl)))), ?_⟩
  rintro ds A Q ⟨X, s, f, m, w, d, rfl, O, hd, q⟩
  obtain ⟨p, hp⟩ := hd.shw
  walk_at "go"
  refine ForQ.s2 3 4 (fun i x3 x4 A' => Kq [] A A') ⟨_, _, rfl, Kq.refl _ _⟩ (fun _ _ _ _ _ _ => trivial) ?_ ?_
  · rintro i e x3 x4 A1 hi he q1
    have hd1 := hd.kq (X := X) q1.any
    have hp1 := hp.kq q1
    walk_at "go"
    refine ⟨X, s, f, m, w, d, rfl, O, hd1, fun A2 q2 => ?_⟩
    have hd2 := hd1.kq (X := X) q2.any
    walk_at "go"
    refine ⟨X, s, f, m, w, d, rfl, O, hd2, fun A3 q3 => ?_⟩
    have hp3 := (hp1.kq q2).kq q3
    walk_at "go"
    exact .mk ⟨_, _, by walk_at "sq", (q1.trans q2).trans q3⟩
  · rintro x3 x4 A1 q1
    walk_at "go"
    exact q _ q1
end Rp

/-! k43: kinds, roads, things otherwise. -/
namespace Rp
open PySem PySem.Spec PyProof.Rows L2
local macro_rules | `(tactic| walk_at "vd") => `(tactic| rfl)
local macro_rules | `(tactic| walk_at "w") => `(tactic| (conv => whnf))
local macro_rules | `(tactic| walk_at "ni") => `(tactic| first | exact ni0 | (refine ni2 ?_ ?_ <;> omega) | (refine ni1 ?_ <;> omega) | (refine ni3 ?_ ?_ ?_ <;> omega))
local macro_rules | `(tactic| walk_at "hp") => `(tactic| first | assumption | exact New.get (by assumption) | exact Put.get (by assumption) | (refine New.old (by assumption) ?_; walk_at "hp") | (refine Kq.old0 (by assumption) ?_; walk_at "hp") | (refine Kq.old (by assumption) (by walk_at "ni") ?_; walk_at "hp") | (refine Put.old (by assumption) (by omega) ?_; walk_at "hp"))
local macro_rules | `(tactic| walk_at "kq") => `(tactic| first | exact Kq.refl _ _ | assumption | (refine Kq.new ?_ (by assumption); walk_at "kq") | (refine Kq.putO ?_ (by assumption) (by omega); walk_at "kq") | (refine Kq.putM ?_ (by assumption) (by simp); walk_at "kq") | (refine Kq.trans0 ?_ (by assumption); walk_at "kq") | (refine Kq.trans ?_ (by assumption); walk_at "kq"))
local macro_rules | `(tactic| walk_at "nw") => `(tactic| (intro k A' n; have e := New.eq n; have l := New.len n))
local macro_rules | `(tactic| walk_at "pt") => `(tactic| (intro A' p; have l := Put.len p))
local macro_rules | `(tactic| walk_at "ix") => `(tactic| first | rfl | assumption | exact at_zero)
local macro_rules | `(tactic| walk_at "ar") => `(tactic| first | omega | exact True.intro | assumption | decide | exact Or.inl ⟨by omega, by omega⟩ | exact Or.inr ⟨by omega, by omega⟩ | exact ⟨by omega, by omega⟩ | exact ⟨by decide, by decide, by decide⟩ | (simp only [List.length_map, List.length_append, List.length_cons, List.length_nil, List.length_range, List.length_replicate, List.length_zip, List.length_drop, List.length_take]; omega) | (rw [sizeLine_eq]; first | decide | (simp; done) | (simp; omega)) | (simp; done))
local macro_rules | `(tactic| walk_at "br") => `(tactic| first | (with_reducible refine Br.t ?_) | (with_reducible refine Br.f ?_) | ((with_reducible refine Br.nf ?_ ?_); (first | with_reducible rfl | assumption | omega | exact (rfl : (_ : Int) = _))) | ((with_reducible refine Br.dt ?_ ?_); (first | assumption | omega | exact (rfl : (_ : Int) = _))) | ((with_reducible refine Br.df ?_ ?_); (first | assumption | omega)) | ((with_reducible refine Br.nt ?_ ?_); (first | assumption | omega)) | ((with_reducible refine Br.yes_of ?_ ?_); (first | with_reducible rfl | assumption | decide | (simp only [List.isEmpty_cons, List.isEmpty_nil, Bool.not_true, Bool.not_false]; done))) | ((with_reducible refine Br.no_of ?_ ?_); (first | with_reducible rfl | assumption | decide | (simp only [List.isEmpty_cons, List.isEmpty_nil, Bool.not_true, Bool.not_false]; done))))
local macro_rules | `(tactic| walk_at "ask") => `(tactic| fail)
local macro_rules | `(tactic| walk_at "ty") => `(tactic| first | exact TyD.int _ | exact TyD.bl _ | exact TyD.non | exact TyD.str _ | exact TyD.tup _ | (apply TyD.lst; walk_at "hp") | (apply TyD.dK; walk_at "hp") | (apply tyd_ins; assumption; assumption; walk_at "hp"))
local macro_rules | `(tactic| walk_at "isi") => `(tactic| (apply Exists.intro; apply Exists.intro; apply Exists.intro; apply And.intro; (first | exact ClsV.ty _ | exact ClsV.own _); apply And.intro; (walk_at "ty"); apply And.intro; (first | exact rfl | exact kit_self)))
local macro_rules | `(tactic| walk_at "ex") => `(tactic| first | (apply Exists.intro; apply Exists.intro; apply Exists.intro; apply And.intro; (walk_at "hp"); apply And.intro; (exact rfl); apply And.intro; (walk_at "vd")) | (apply Exists.intro; apply Exists.intro; apply And.intro; (walk_at "hp"); apply And.intro; (walk_at "hp"); apply And.intro; (first | walk_at "ar" | (simp only [sizeLine_eq, List.length_cons, List.length_nil, List.length_map, List.length_append]; omega))) | (apply Exists.intro; apply Exists.intro; apply And.intro; (walk_at "hp"); apply And.intro; (exact rfl)) | (apply Exists.intro; apply Exists.intro; apply And.intro; (walk_at "hp")) | (apply Exists.intro; apply And.intro; (walk_at "hp"); apply And.intro; (walk_at "ar")) | (apply Exists.intro; apply And.intro; (walk_at "hp"); apply And.intro; (exact rfl)) | (apply Exists.intro; apply And.intro; (walk_at "hp")) | (apply Exists.intro; apply And.intro; (walk_at "ix")))
local macro_rules | `(tactic| walk_at "an") => `(tactic| first | (apply And.intro; (exact Exists.intro _ (by walk_at "hp"))) | (apply And.intro; (walk_at "ar")))
local macro_rules | `(tactic| walk_at "dp") => `(tactic| first | exact DP.bl _ | exact DP.int _ | exact DP.non | exact DP.str _ | (apply DP.tup; walk_at "dps") | (apply DP.lst; (walk_at "hp"); (walk_at "dps")))
local macro_rules | `(tactic| walk_at "dps") => `(tactic| first | exact DPs.nil | (apply DPs.cons; (walk_at "dp"); (walk_at "dps")) | exact dps_ints | exact dps_bools)
local macro_rules | `(tactic| walk_at "sw") => `(tactic| first | exact Sw.bl0 | (apply Sw.int0; exact ⟨by omega, by omega⟩) | exact Sw.non0 | (apply Sws.tup; walk_at "sws") | (apply Sws.lst; walk_at "sws") | (apply Sw.str0; decide +kernel))
local macro_rules | `(tactic| walk_at "sws") => `(tactic| first | exact Sws.nil0 | (apply Sws.cons; (walk_at "sw"); (walk_at "sws")) | (apply Sws.ints; assumption) | exact Sws.bools)
local macro_rules | `(tactic| walk_at "shw") => `(tactic| exact Sw.shw (n := 12) (by walk_at "sw") (by decide) (by first | decide | omega))
local macro_rules | `(tactic| walk_at "shp") => `(tactic| exact Sw.shaped (n := 12) (by walk_at "sw") (by decide))
local macro_rules | `(tactic| walk_at "rp") => `(tactic| first | (apply Exists.intro; apply And.intro; (walk_at "dp"); apply And.intro; (walk_at "shw")) | (apply Exists.intro; apply And.intro; (apply Exists.intro; apply Exists.intro; apply And.intro; (walk_at "dp"); apply And.intro; (walk_at "dp"); apply And.intro; (walk_at "shp"); apply And.intro; (walk_at "shp"); (exact rfl))))
local macro_rules | `(tactic| walk_at "st") => `(tactic| ((conv => whnf); first | walk_at "br" | ((with_reducible refine IfQ.go ?_); (conv => whnf); walk_at "br") | walk_at "nw" | walk_at "pt" | ((with_reducible show Ask _ _ _ _); walk_at "ask") | ((with_reducible show Exists _); first | walk_at "ex" | walk_at "isi" | walk_at "rp") | ((with_reducible show And _ _); walk_at "an") | ((with_reducible show Or _ _); apply Or.inl; apply Exists.intro; apply And.intro; (walk_at "hp"))))
local macro_rules | `(tactic| walk_at "s0") => `(tactic| try ((first | dsimp only [startH] | dsimp only [startHN]); dsimp only [sl_lenC, sl_lenN, sl_mapC, sl_mapN, Nat.reduceAdd, Nat.reduceSub, sl_repS, sl_rep0, sl_appC, sl_appN]))
local macro_rules | `(tactic| walk_at "sn") => `(tactic| try dsimp only [sl_set0, sl_setS])
local macro_rules | `(tactic| walk_at "go") => `(tactic| (walk_at "s0"; walk_at "sn"; (repeat walk_at "st"); (try (conv => whnf))))
local macro_rules | `(tactic| walk_at "lv") => `(tactic| first | exact True.intro | (show _[_]? = some _; walk_at "hp"))
local macro_rules | `(tactic| walk_at "rg") => `(tactic| (refine gI_all ?_ (by first | exact (i01 _).1 | omega) (by first | exact (i01 _).2 | (simp only [List.length_cons, List.length_nil]; omega)); intro x hx; simp only [List.mem_cons, List.not_mem_nil, or_false] at hx; omega))
local macro_rules | `(tactic| walk_at "sq") => `(tactic| (refine Seq.eq ?_; (try dsimp only [sl_set0, sl_setS]); repeat (first | (with_reducible exact Seq.nil) | (with_reducible refine Seq.cons (by rfl) ?_) | exact Seq.nil | (refine Seq.cons (by rfl) ?_))))
local macro_rules | `(tactic| walk_at "pt") => `(tactic| (intro A' p; have l := Put.len p; try rw [pd_at] at p))
local macro_rules | `(tactic| walk_at "vd") => `(tactic| first | exact vd_cells | exact vd_seed | exact vd_at)
local macro_rules | `(tactic| walk_at "dk0") => `(tactic| first | assumption | exact DeckW.new' (by assumption) (by walk_at "dk0") | exact DeckW.kq' (by assumption) (by walk_at "dk0") | exact DeckW.put' (by assumption) (by walk_at "dk0") (by omega) (by omega))
local macro_rules | `(tactic| walk_at "dk") => `(tactic| (refine DeckW.mono (by walk_at "dk0") ?_; omega))
local macro_rules | `(tactic| walk_at "ask") => `(tactic| (refine ask_draw (by walk_at "dk0") (by omega) (by omega) (by omega) ?_; intro d A' d0 d1 D q; have l := Kq.len q))
local macro_rules | `(tactic| walk_at "hp") => `(tactic| first | assumption | exact New.get (by assumption) | exact Put.get (by assumption) | (refine New.old (by assumption) ?_; walk_at "hp") | (refine Kq.old0 (by assumption) ?_; walk_at "hp") | (refine Kq.old_insW (by assumption) (by walk_at "dk0") ?_; walk_at "hp") | (refine Kq.old_tabW (by assumption) (by walk_at "dk0") ?_; walk_at "hp") | (refine Kq.old (by assumption) (by walk_at "ni") ?_; walk_at "hp") | (refine Put.old (by assumption) (by omega) ?_; walk_at "hp"))
def spKnd : Sph := fun ds A Q => ∃ k c n, ds = [.ptr k] ∧ DeckW A k c n ∧ 0 ≤ n ∧ n < 100000000 ∧ ∀ s f m w A', KdOk s f m w → DeckW A' k c (n + 8) → Kq [k, c] A A' → Q (.tup (dI [s, f, m, w])) A'
theorem ok_law_kind {P : Program} {w : World} {K : PySem.W.Frag} {mg : Str → Option Value} {base : Heap} (W : Wd K mg) : FnOk P w K mg base CX0 6 W.f_law_kind W.d_law_kind ["_law_deck_here"] (spOf K 1 (spKnd)) := by
  refine okH (k := 5) W.F_law_kind sc_law_kind fun cdv Ao outer s H E hr => have hu := hr.units; ⟨_, pssh_cons (psh_set (i := 1) sc_law_kind.nd rfl (Or.inl rfl) (ph_ix l_ix ix_seq (ph_lst (pah_cons (ph_c pe_int) (pah_cons (ph_c pe_int) (pah_cons (ph_op l_add op_addA (ph_c pe_int) (ph_callO (ok_law_draw W) (hr.mono (by decide)) (by rfl) W.m_law_draw W.F_law_draw.kp W.b_law_draw (pah_cons (ph_var (pv 0)) (pah_cons (ph_c pe_int) pah_nil)))) (pah_cons (ph_callO (ok_law_draw W) (hr.mono (by decide)) (by rfl) W.m_law_draw W.F_law_draw.kp W.b_law_draw (pah_cons (ph_var (pv 0)) (pah_cons (ph_c pe_int) pah_nil))) pah_nil))))) (ph_callO (ok_law_draw W) (hr.mono (by decide)) (by rfl) W.m_law_draw W.F_law_draw.kp W.b_law_draw (pah_cons (ph_var (pv 0)) (pah_cons (ph_c pe_int) pah_nil))) (fun _ _ => rfl)))
    (pssh_cons (psh_set (i := 2) sc_law_kind.nd rfl (Or.inl rfl) (ph_op l_add op_addA (ph_c pe_int) (ph_callO (ok_law_draw W) (hr.mono (by decide)) (by rfl) W.m_law_draw W.F_law_draw.kp W.b_law_draw (pah_cons (ph_var (pv 0)) (pah_cons (ph_c pe_int) pah_nil)))))
    (pssh_one (psh_ret (ph_tup (pah_cons (ph_var (pv 1)) (pah_cons (ph_op l_add op_addA (ph_op l_add op_addA (ph_var (pv 1)) (ph_c pe_int)) (ph_callO (ok_law_draw W) (hr.mono (by decide)) (by rfl) W.m_law_draw W.F_law_draw.kp W.b_law_draw (pah_cons (ph_var (pv 0)) (pah_cons (ph_ix l_ix ix_seq (ph_lst (pah_cons (ph_c pe_int) (pah_cons (ph_op l_sub op_sub (ph_c pe_int) (ph_var (pv 1))) pah_nil))) (ph_callO (ok_law_draw W) (hr.mono (by decide)) (by rfl) W.m_law_draw W.F_law_draw.kp W.b_law_draw (pah_cons (ph_var (pv 0)) (pah_cons (ph_c pe_int) pah_nil))) (fun _ _ => rfl)) pah_nil)))) (pah_cons (ph_callO (ok_law_draw W) (hr.mono (by decide)) (by rfl) W.m_law_draw W.F_law_draw.kp W.b_law_draw (pah_cons (ph_var (pv 0)) (pah_cons (ph_var (pv 2)) pah_nil))) (pah_cons (ph_var (pv 2)) pah_nil)))))))), ?_⟩
  rintro ds A Q ⟨k, c, n, rfl, D0, n0, n1, q⟩
  have l0 := D0.lt1
  have l1 := D0.lt2
  have ne := D0.ne
  walk_at "go"
  refine at_rg4 0 997 (by omega) (by omega) (by omega) fun s s0 s1 => ?_
  rename_i d1 A1 d10 d11 D1 q1 l1' d2 A2 d20 d21 D2 q2 l2' k3 A3 n3 e3 l3 d4 A4 d40 d41 D4 q4 l4
  have q4' : Kq [k, c] A A4 := by walk_at "kq"
  clear q1 q2 q4 n3 D1 D2
  walk_at "go"
  refine at_rg2 2 (1000 - s) (by omega) (by omega) (by omega) fun z z0 z1 => ?_
  rename_i d5 A5 d50 d51 D5 q5 l5 k6 A6 n6 e6 l6 d7 A7 d70 d71 D7 q7 l7
  have q7' : Kq [k, c] A A7 := by walk_at "kq"
  clear q5 q7 n6 D5 D4 q4'
  walk_at "go"
  rename_i d8 A8 d80 d81 D8 q8 l8 d9 A9 d90 d91 D9 q9 l9
  exact q s (s + 1 + d8) d9 (1 + d5) A9 ⟨by omega, by omega, by omega, by omega, by omega, by omega, by omega⟩ (D9.mono (by omega)) ((q7'.trans q8).trans q9)
def spRoad : Sph := fun ds A Q => ∃ k c n s f m w, ds = [.ptr k, .tup (dI [s, f, m, w])] ∧ KdOk s f m w ∧ DeckW A k c n ∧ 0 ≤ n ∧ n < 100000000 ∧ ∀ L A', L.length ≤ 200 → (∀ i ∈ L, 0 ≤ i ∧ i ≤ 1000) → DeckW A' k c (n + 210) → Kq [k, c] A A' → Q (.tup (dI L)) A'
theorem ok_law_road {P : Program} {w : World} {K : PySem.W.Frag} {mg : Str → Option Value} {base : Heap} (W : Wd K mg) : FnOk P w K mg base CX0 6 W.f_law_road W.d_law_road ["_law_deck_here", "_law_kind_here"] (spOf K 2 (spRoad)) := by
  refine okH (k := 5) W.F_law_road sc_law_road fun cdv Ao outer s H E hr => have hu := hr.units; ⟨_, pssh_cons (psh_asg (lg_tup (lg_cons lg_name (lg_cons lg_name (lg_cons lg_name (lg_cons lg_name lg_nil)))) (len_cons goes_name (len_cons goes_name (len_cons goes_name (len_cons goes_name len_nil))))) (ph_var (pv 1)) (pg_tup rfl (pgs_cons (pg_name (i := 2) sc_law_road.nd rfl (Or.inr rfl)) (pgs_cons (pg_name (i := 3) sc_law_road.nd rfl (Or.inl rfl)) (pgs_cons (pg_name (i := 4) sc_law_road.nd rfl (Or.inl rfl)) (pgs_cons (pg_name (i := 5) sc_law_road.nd rfl (Or.inl rfl)) (pgs_nil)))))))
    (pssh_cons (psh_set (i := 6) sc_law_road.nd rfl (Or.inl rfl) (ph_callO (ok_law_draw W) (hr.mono (by decide)) (by rfl) W.m_law_draw W.F_law_draw.kp W.b_law_draw (pah_cons (ph_var (pv 0)) (pah_cons (ph_c pe_int) pah_nil))))
    (pssh_cons (psh_set (i := 7) sc_law_road.nd rfl (Or.inl rfl) (ph_ix l_ix ix_seq (ph_lst (pah_cons (ph_callO (ok_law_draw W) (hr.mono (by decide)) (by rfl) W.m_law_draw W.F_law_draw.kp W.b_law_draw (pah_cons (ph_var (pv 0)) (pah_cons (ph_c pe_int) pah_nil))) (pah_cons (ph_c pe_int) pah_nil))) (ph_callTy l_int call_int1 (by rfl) W.B.int boot_int (pah_cons (ph_cmp l_eq (op_eqA hu) (ph_callO (ok_law_draw W) (hr.mono (by decide)) (by rfl) W.m_law_draw W.F_law_draw.kp W.b_law_draw (pah_cons (ph_var (pv 0)) (pah_cons (ph_c pe_int) pah_nil))) (ph_c pe_int) (nomark _)) pah_nil)) (fun _ _ => rfl)))
    (pssh_cons (psh_set (i := 8) sc_law_road.nd rfl (Or.inl rfl) (ph_lst (pah_nil)))
    (pssh_cons (psj_for lg_name PassesOwn.never rfl (pih_range1 (by rfl) W.B.range (pah_cons (ph_var (pv 7)) pah_nil)) (pg_name (i := 9) sc_law_road.nd rfl (Or.inl rfl)) (pssh_cons (psh_set (i := 10) sc_law_road.nd rfl (Or.inl rfl) (pj_e (ph_ifExp (pth_cmp l_ge op_ge (ph_callB l_len call_len (by rfl) W.B.len PySem.boot_len (pah_cons (ph_var (pv 8)) pah_nil)) (ph_var (pv 5)) (nomark _)) (ph_slice (ph_var (pv 8)) (poh_some (ph_op l_add op_addA (ph_op l_sub op_sub (ph_callB l_len call_len (by rfl) W.B.len PySem.boot_len (pah_cons (ph_var (pv 8)) pah_nil)) (ph_var (pv 5))) (ph_c pe_int))) poh_none) (ph_var (pv 8)))))
      (pssh_cons (psh_set (i := 11) sc_law_road.nd rfl (Or.inl rfl) (pj_e (ph_and (ph_cmp l_lt op_lt (ph_callB l_len call_len (by rfl) W.B.len PySem.boot_len (pah_cons (pj_lc (own := [("_law_one", 12)]) lg_name (keeps_name (by decide)) rfl sc_law_road.nd (pih_seq (ph_var (pv 10))) (blkOk_by (own := [("_law_one", 12)]) (N := ["_law_deck_here", "_law_kind_here", "_law_slow", "_law_fast", "_law_many", "_law_wide", "_law_way", "_law_count", "_law_found", "_law_k", "_law_free", "_law_may", "_law_one", "_law_turn", "_law_pick"]) (sc := defScope s_law_road) (by decide +kernel)) (fun _ _ _ _ _ => pg_name (i := 12) sc_law_road.nd rfl (Or.inl rfl)) (fun _ _ _ _ _ => ptsh_one (pth_cmp l_eq (op_eqA hu) (ph_var (pv 12)) (ph_var (pv 2)) (nomark _))) (fun _ _ _ _ _ => ph_var (pv 12))) pah_nil)) (ph_var (pv 4)) (nomark _)) (ph_one (ph_or (ph_cmp l_gt op_gt (ph_var (pv 5)) (ph_c pe_int) (nomark _)) (ph_one (ph_cmp l_gt op_gt (ph_var (pv 4)) (ph_c pe_int) (nomark _))))))))
      (pssh_cons (psj_if (pth_cmp l_eq (op_eqA hu) (ph_var (pv 5)) (ph_c pe_int) (nomark _)) (pssh_one (psh_set (i := 11) sc_law_road.nd rfl (Or.inl rfl) (ph_cmp l_gt op_gt (ph_var (pv 4)) (ph_c pe_int) (nomark _)))) (pssh_nil))
      (pssh_cons (psh_set (i := 13) sc_law_road.nd rfl (Or.inl rfl) (ph_callO (ok_law_draw W) (hr.mono (by decide)) (by rfl) W.m_law_draw W.F_law_draw.kp W.b_law_draw (pah_cons (ph_var (pv 0)) (pah_cons (ph_c pe_int) pah_nil))))
      (pssh_cons (psh_set (i := 14) sc_law_road.nd rfl (Or.inl rfl) (ph_ix l_ix ix_seq (ph_lst (pah_cons (ph_var (pv 2)) (pah_cons (ph_var (pv 3)) pah_nil))) (ph_callTy l_int call_int1 (by rfl) W.B.int boot_int (pah_cons (ph_cmp l_eq (op_eqA hu) (ph_var (pv 13)) (ph_c pe_int) (nomark _)) pah_nil)) (fun _ _ => rfl)))
      (pssh_cons (psj_if (PW.pt (pwh_and (pth_cmp l_gt op_gt (ph_var (pv 6)) (ph_c pe_int) (nomark _)) (pwh_and1 (pth_not (pth_val (ph_var (pv 11))))))) (pssh_one (psh_set (i := 14) sc_law_road.nd rfl (Or.inl rfl) (ph_var (pv 3)))) (pssh_nil))
      (pssh_cons (psj_if (PW.pt (pwh_and (pth_cmp l_eq (op_eqA hu) (ph_var (pv 6)) (ph_c pe_int) (nomark _)) (pwh_and1 (pth_val (ph_var (pv 11)))))) (pssh_one (psh_set (i := 14) sc_law_road.nd rfl (Or.inl rfl) (ph_var (pv 2)))) (pssh_nil))
      (pssh_one (psh_expr (ph_app (ph_var (pv 8)) (pah_cons (ph_var (pv 14)) pah_nil))))))))))))
    (pssh_one (psh_ret (ph_callTy l_tuple call_tuple_of (by rfl) W.B.tuple boot_tuple (pah_cons (ph_var (pv 8)) pah_nil)))))))), ?_⟩
  rintro ds A Q ⟨k, c, n, s, f, m, w, rfl, O, D0, n0, n1, q⟩
  have l0 := D0.lt1
  have l1 := D0.lt2
  have ne := D0.ne
  have o1 := O.s0
  have o2 := O.sf
  have o3 := O.f1
  have o4 := O.m0
  have o5 := O.m1
  have o6 := O.w1
  have o7 := O.w6
  walk_at "go"
  refine at_rg2 0 200 (by omega) (i01 _).1 (i01 _).2 fun cnt c0 c1 => ?_
  walk_at "go"
  rename_i way A1 wa0 wa1 D1 q1 l1' dd A2 dd0 dd1 D2 q2 l2 k3 A3 n3 e3 l3 d4 A4 d40 d41 D4 q4 l4 ja A5 n5 e5 l5
  have q5 : Kq [k, c] A A5 := by walk_at "kq"
  have D5 : DeckW A5 k c (n + 3) := by walk_at "dk"
  have h5 := n5.get
  have jn : ja ≠ k ∧ ja ≠ c := by omega
  clear q1 q2 q4 n3 n5 D1 D2 D4
  refine ForQ.s5 9 10 11 13 14 (fun i x9 x10 x11 x13 x14 A' => DeckW A' k c (n + 3 + (i : Nat)) ∧ Kq [k, c] A A' ∧ ∃ L, A'[ja]? = some (.lst (dI L)) ∧ L.length = i ∧ ∀ v ∈ L, 0 ≤ v ∧ v ≤ 1000) ⟨_, _, _, _, _, rfl, D5.mono (by omega), q5, [], h5, rfl, fun _ h => nomatch h⟩ (fun _ _ _ _ _ _ _ _ _ => trivial) ?_ ?_
  · rintro i d x9 x10 x11 x13 x14 A6 hi hd ⟨D6, q6, L, hL, hl, ok⟩
    have hi' : i < cnt.toNat := hi
    have l6 := q6.len
    have lj := lt_of_at hL
    have lk6 := D6.lt1
    have lc6 := D6.lt2
    cases item_R hd
    walk_at "go"
    refine JoinQ.any (fun d A' => ∃ jf L', d = .ptr jf ∧ A'[jf]? = some (.lst (dI L')) ∧ L'.length ≤ 200 ∧ Kq [] A6 A') ?_ ?_
    · walk_at "go"
      rw [List.length_map]
      refine .d (fun c1 => ?_) (fun c1 => ?_)
      · walk_at "go"
        rename_i jf A7 n7 e7 l7
        rw [cutD_dI] at n7
        exact .mk ⟨jf, _, rfl, n7.get, Nat.le_trans (cutI_len _ _ _) (by omega), (Kq.refl _ _).new n7⟩
      · walk_at "go"
        exact .mk ⟨ja, L, rfl, hL, by omega, Kq.refl _ _⟩
    rintro d A7 ⟨jf, L', rfl, hf, lf, q7⟩
    walk_at "go"
    refine JoinQ.any (fun d A' => ∃ b, d = .v (.bl b) ∧ Kq [] A6 A') ?_ ?_
    · walk_at "go"
      refine LcQ.filter0 (xs := L') (f := fun n : Int => .v (.int n)) itm_L (fun x => decide (x = s)) (fun x => .v (.int x)) (by omega) hf (fun i2 x h1 h2 kt kf k1 k2 => ?_) ?_
      · walk_at "go"
        refine .d (fun cc => ?_) (fun cc => ?_)
        · walk_at "go"; exact k1 (decide_eq_true cc)
        · walk_at "go"; exact k2 (decide_eq_false cc)
      · walk_at "go"
        rename_i k8 A8 n8 e8 l8
        have q8 := q7.new n8
        refine .d (fun cc => ?_) (fun cc => ?_)
        · walk_at "go"
          refine .d (fun cc => ?_) (fun cc => ?_)
          · walk_at "go"
            exact .mk ⟨_, rfl, q8⟩
          · walk_at "go"
            exact .mk ⟨_, rfl, q8⟩
        · walk_at "go"
          exact .mk ⟨_, rfl, q8⟩
    rintro d A8 ⟨b8, rfl, q8⟩
    have D8 : DeckW A8 k c (n + 3 + (i : Nat)) := DeckW.kq' q8 D6
    have hL8 := q8.old0 hL
    have q8 := q6.trans q8.any
    have lk8 := D8.lt1
    have lc8 := D8.lt2
    have lj8 := lt_of_at hL8
    clear D6 q6 hL hf q7
    walk_at "go"
    refine IfQ.s1 11 (fun x11 A' => (∃ b, x11 = some (.v (.bl b))) ∧ A' = A8) ?_ ?_
    · walk_at "go"
      refine .d (fun cc => ?_) (fun cc => ?_)
      · walk_at "go"
        exact .mk ⟨_, by walk_at "sq", ⟨_, rfl⟩, rfl⟩
      · walk_at "go"
        exact .mk ⟨_, by walk_at "sq", ⟨_, rfl⟩, rfl⟩
    rintro x11 A9 ⟨⟨b9, rfl⟩, rfl⟩
    walk_at "go"
    refine at_rg2 0 1000 (by omega) (i01 _).1 (i01 _).2 fun pk p0 p1 => ?_
    rename_i tn A10 tn0 tn1 D10 q10 l10 k11 A11 n11 e11 l11
    have D11 := DeckW.new' n11 D10
    have q11 := (q8.trans q10).new n11
    have hL11 := n11.old (q10.old (ni2 jn.1 jn.2) hL8)
    clear n11 D10 q10 D8 hL8 q8
    walk_at "go"
    refine IfQ.s1 14 (fun x14 A' => (∃ p : Int, x14 = some (.v (.int p)) ∧ 0 ≤ p ∧ p ≤ 1000) ∧ A' = A11) ?_ ?_
    · walk_at "go"
      refine .d (fun cc => ?_) (fun cc => ?_)
      · walk_at "go"
        refine .of (fun cb => ?_) (fun cb => ?_)
        · walk_at "go"
          exact .mk ⟨_, by walk_at "sq", ⟨f, rfl, by omega, by omega⟩, rfl⟩
        · walk_at "go"
          exact .mk ⟨_, by walk_at "sq", ⟨pk, rfl, by omega, by omega⟩, rfl⟩
      · walk_at "go"
        exact .mk ⟨_, by walk_at "sq", ⟨pk, rfl, by omega, by omega⟩, rfl⟩
    rintro x14 A12 ⟨⟨p2, rfl, p20, p21⟩, rfl⟩
    walk_at "go"
    refine IfQ.s1 14 (fun x14 A' => (∃ p : Int, x14 = some (.v (.int p)) ∧ 0 ≤ p ∧ p ≤ 1000) ∧ A' = A12) ?_ ?_
    · walk_at "go"
      refine .d (fun cc => ?_) (fun cc => ?_)
      · walk_at "go"
        refine .of (fun cb => ?_) (fun cb => ?_)
        · walk_at "go"
          exact .mk ⟨_, by walk_at "sq", ⟨s, rfl, by omega, by omega⟩, rfl⟩
        · walk_at "go"
          exact .mk ⟨_, by walk_at "sq", ⟨p2, rfl, by omega, by omega⟩, rfl⟩
      · walk_at "go"
        exact .mk ⟨_, by walk_at "sq", ⟨p2, rfl, by omega, by omega⟩, rfl⟩
    rintro x14 A13 ⟨⟨p3, rfl, p30, p31⟩, rfl⟩
    have lL : (dI L).length ≤ 100000 := by rw [List.length_map]; omega
    walk_at "go"
    rename_i A14 p14 l14
    refine .mk ⟨_, _, _, _, _, by walk_at "sq", (DeckW.put' p14 D11 (by omega) (by omega)).mono (by omega), ?_, L ++ [p3], by rw [dI_app]; exact p14.get, by rw [List.length_append, hl]; rfl, fun v hv => ?_⟩
    · have := q11.putO p14
      exact this (by omega)
    · rcases List.mem_append.mp hv with h | h
      · exact ok v h
      · cases List.mem_singleton.mp h; exact ⟨p30, p31⟩
  · rintro x9 x10 x11 x13 x14 A6 ⟨D6, q6, L, hL, hl, ok⟩
    have hl : L.length = cnt.toNat := hl
    have D6 : DeckW A6 k c (n + 3 + (cnt.toNat : Nat)) := D6
    walk_at "go"
    exact q L A6 (by omega) ok (D6.mono (by omega)) q6
end Rp

/-! tuple[::-1], over data too. -/
namespace HT
open PySem PySem.Spec PyProof.Rows
section
variable {prog : Program} {w : World} {A : Around} {E : Value → Shared → Prop} {s : Shared}
theorem adjust_rev (n : Nat) : Builtin.Slice.sliceAdjust none none (-1) (n : Int) = ((n : Int) - 1, -1) := by
  unfold Builtin.Slice.sliceAdjust
  rfl
theorem places_rev (n : Nat) : Builtin.Slice.slicePlaces ((n : Int) - 1) (-1) (-1) = n := by
  unfold Builtin.Slice.slicePlaces
  have h1 : ¬ ((-1 : Int) > 0) := by omega
  simp only [h1, if_false]
  rw [show (- -1 : Int) = 1 by decide, Int.ediv_one]
  split <;> omega
theorem sliceApplied_rev {sl : Addr} {vs : Value} {n : Nat} {Q : Int × Int × Nat → Shared → Prop} (hs : s.heap.IsSliceOf sl .none .none vs) (ps : IsPart vs (some (-1)))
    (h : Q ((n : Int) - 1, -1, n) s) : wpAny (model prog w) A (Builtin.Slice.sliceApplied (.ref sl) (pure (n : Int))) Q E s := by
  obtain ⟨os, hos, hcs, hds⟩ := id hs
  unfold Builtin.Slice.sliceApplied Builtin.Slice.sliceFields
  refine wpAny_bind (wpAny_bind (wpAny_field hos hds (x := .none) rfl (wpAny_bind (wpAny_field hos hds (x := .none) rfl (wpAny_bind (wpAny_field hos hds (x := vs) rfl (wpAny_pure ?_)))))))
  refine wpAny_bind (slicePart_ ps ?_)
  show wpAny _ _ (if ((-1 : Int) == 0) = true then _ else _) _ _ s
  rw [if_neg (by decide)]
  refine wpAny_bind (slicePart_none (wpAny_bind (slicePart_none (wpAny_bind (wpAny_pure ?_)))))
  show wpAny _ _ (match Builtin.Slice.sliceAdjust none none (-1) (n : Int) with | (lo, hi) => pure (lo, (-1 : Int), Builtin.Slice.slicePlaces lo hi (-1))) _ _ s
  rw [adjust_rev n]
  show wpAny _ _ (pure ((n : Int) - 1, (-1 : Int), Builtin.Slice.slicePlaces ((n : Int) - 1) (-1) (-1))) _ _ s
  rw [places_rev]
  exact wpAny_pure h
theorem fm_congr {α β : Type} {f g : α → Option β} : ∀ {l : List α}, (∀ m ∈ l, f m = g m) → l.filterMap f = l.filterMap g
  | [], _ => rfl
  | a :: l, h => by
    have ih := fm_congr (l := l) fun m hm => h m (List.mem_cons_of_mem _ hm)
    rw [List.filterMap_cons, List.filterMap_cons, h a List.mem_cons_self, ih]
theorem pick_rev (xs : Array Value) : ((List.range xs.size).filterMap fun (m : Nat) => xs[(((xs.size : Nat) : Int) - 1 + (m : Int) * (-1)).toNat]?).toArray = xs.toList.reverse.toArray := by
  have e := PySem.W.krv_pick xs
  unfold slicePick at e
  rw [PySem.W.krv_bounds] at e
  have e2 : ((sliceRange ((xs.size : Int) - 1) (-1) (-1)).filterMap (xs[·]?)).toArray = xs.toList.reverse.toArray := e
  rw [PySem.W.krv_sliceRange, List.filterMap_map] at e2
  rw [← e2]
  refine congrArg List.toArray (fm_congr fun m hm => ?_)
  have := List.mem_range.mp hm
  have q : (((xs.size : Nat) : Int) - 1 + (m : Int) * (-1)).toNat = xs.size - 1 - m := by omega
  rw [q]
  rfl
theorem getItem_tuple_rev {t sl : Addr} {items : Array Value} {vs : Value} {Q : Value → Shared → Prop} (ht : IsTup s.heap t items) (hs : s.heap.IsSliceOf sl .none .none vs) (ps : IsPart vs (some (-1)))
    (h : Q (.ref s.heap.objs.size) { s with heap := s.heap.push { cls := .type "tuple", data := .seq items.toList.reverse.toArray } })
    (hsz : items.size ≤ sizeLine) : wpAny (model prog w) A (getItem (.ref t) (.ref sl)) Q E s := by
  have htake : sizeOk (.seq items.toList.reverse.toArray) := by
    show items.toList.reverse.toArray.size ≤ sizeLine
    rw [List.size_toArray, List.length_reverse, Array.length_toList]
    exact hsz
  obtain ⟨os, hos, hcs, hds⟩ := id hs
  have hTs : s.TypeIs (.ref sl) "slice" := ⟨os, hos, hcs⟩
  unfold getItem
  try with_reducible refine wpAny_holding ?_
  first | refine wpAny_bind (wpAny_pure ?_) | skip
  refine wpAny_bind (wpAny_sequenceKey ht.typeIs (by decide) ?_)
  refine wpAny_bind (wpAny_callSpecial?_slot (name := Str.ofString "__getitem__") ht.typeIs PyProof.Rows.slot_tuple_getitem
    (wpAny_call_entry PyProof.Rows.slot_tuple_getitem ht.typeIs entry_tuple_getitem ?_ (args_tuple_getitem _ _)))
  show wpAny _ _ (Builtin.Tuple.tupleItemsOf (.ref t) >>= _) _ _ s
  refine wpAny_bind (tupleItemsOf_ ht ?_)
  refine wpAny_bind (wpAny_typeOf hTs ?_)
  rw [if_pos (by decide)]
  refine wpAny_bind (sliceApplied_rev hs ps ?_)
  have hno : ¬ ((((items.size : Int) - 1) == 0 && (-1 : Int) == 1 && items.size == items.size) = true) := by
    intro q
    rw [Bool.and_eq_true, Bool.and_eq_true] at q
    exact absurd q.1.2 (by decide)
  show wpAny _ _ (if (((items.size : Int) - 1) == 0 && (-1 : Int) == 1 && items.size == items.size) = true then _ else _) _ _ s
  rw [if_neg hno, pick_rev]
  first
    | exact wpAny_bind (m := Builtin.Tuple.tupleExact _) (wpAny_newObj_type (wpAny_pure ⟨_, rfl, wpAny_pure h⟩) htake)
    | exact wpAny_bind (m := Builtin.Tuple.tupleExact _) (wpAny_newObj_type (wpAny_bind (wpAny_pure (wpAny_pure ⟨_, rfl, wpAny_pure h⟩))) htake)
    | exact wpAny_bind (wpAny_bind (m := Builtin.Tuple.tupleExact _) (wpAny_newObj_type (wpAny_pure (wpAny_pure ⟨_, rfl, wpAny_pure h⟩)) htake))
    | exact wpAny_bind (wpAny_bind (m := Builtin.Tuple.tupleExact _) (wpAny_newObj_type (wpAny_pure ⟨_, rfl, wpAny_pure h⟩) htake))
end
end HT
namespace L2
open PySem PySem.Spec PyProof.Rows
section
variable {X : Cx}
def tRevT (K : PySem.W.Frag) (te : TE) : TE := fun σ H Q => te σ H fun x H1 => ∃ a xs, x = .ref a ∧ SqT K H1 a xs ∧ ∀ p, H1 p = none → Q (.ref p) (upd H1 p (.tup xs.reverse))
theorem pe_revT {e : Expr} {te : TE} {k : Nat} {p1 p2 p3 pos : Pos} (he : PE X e te) : PE X (.Subscript e (.Slice none none (some (.UnaryOp .USub (.Constant (.int 1) k p1) p2)) p3) pos) (tRevT X.K te) := by
  refine ⟨fun pins s σ H Q I h => ?_⟩
  refine Subscript_ (thn (he.run pins s σ H _ I h) fun v s1 ⟨x, H1, I1, r1, q1⟩ => ?_)
  obtain ⟨a, xs, ex, hx, q⟩ := q1
  subst ex
  cases r1
  have hst : PO X (some (.UnaryOp .USub (.Constant (.int 1) k p1) p2)) (tPart (tUn (rU fun i => .int (-i)) (tC (.int 1)))) := po_some (pe_un un_neg pe_int)
  refine wpAny_Slice (thn (po_none.run pins s1 σ H1 (fun o H2 => o = none ∧ H2 = H1) I1 ⟨rfl, rfl⟩) fun vl s2 ⟨l, H2, I2, pl, el, e2⟩ => ?_)
  subst el e2
  refine thn (po_none.run pins s2 σ H2 (fun o H3 => o = none ∧ H3 = H2) I2 ⟨rfl, rfl⟩) fun vu s3 ⟨u, H3, I3, pu, eu, e3⟩ => ?_
  subst eu e3
  refine thn (hst.run pins s3 σ H3 (fun o H4 => o = some (-1) ∧ H4 = H3) I3 ⟨1, rfl, -1, rfl, rfl, rfl⟩) fun vs s4 ⟨o, H4, I4, ps, eo, e4⟩ => ?_
  subst eo e4
  cases pl
  cases pu
  have I5 : Inv X pins σ H4 { s4 with heap := s4.heap.push { cls := .type "slice", data := .fields #[.none, .none, vs] } } := I4.kept (t' := s4.toks) fun b ob q => Heap.get?_push_of_some _ q
  obtain ⟨its, r, ht, hz⟩ := I5.tuple hx
  have hlen := r.length
  show wpAny (model X.prog X.w) X.A (subscriptTail e (.Slice none none (some (.UnaryOp .USub (.Constant (.int 1) k p1) p2)) p3) (.ref a) (.ref s4.heap.objs.size)) (EP X pins σ Q) X.xe { s4 with heap := s4.heap.push { cls := .type "slice", data := .fields #[.none, .none, vs] } }
  refine tail_any (ops := [.ref a, .ref s4.heap.objs.size]) ht.typeIs (PyProof.Rows.slot_tuple_getitem.lookup) ?_ (by with_unfolding_all rfl)
  refine HT.getItem_tuple_rev ht (Heap.IsSliceOf.new _ .none .none vs) ps ?_ (by rw [List.size_toArray]; omega)
  refine ⟨.ref _, _, I5.laid (t' := s4.toks) (o := .tup xs.reverse) (fun b ob q => Heap.get?_push_of_some _ q) (Nat.le_refl _) ?_, rfl, q _ (I5.hok.fresh (Nat.le_refl _))⟩
  exact ⟨by rw [List.length_reverse]; exact hz, _, r.reverse, IsTup.new _ _⟩
end
end L2
namespace Rp
open PySem PySem.Spec PyProof.Rows L2
def hRevT (te : TEh) : TEh := fun σ A Q => te σ A fun d A1 => match d with
  | .tup ds => Q (.tup ds.reverse) A1
  | _ => False
theorem ph_revT {X : Cx} {e : Expr} {te : TEh} {k : Nat} {p1 p2 p3 pos : Pos} (he : PE X e (lift X.K te)) : PE X (.Subscript e (.Slice none none (some (.UnaryOp .USub (.Constant (.int 1) k p1) p2)) p3) pos) (lift X.K (hRevT te)) :=
  (pe_revT he).imp fun σ H Q ⟨θ, σh, A, Qh, rs, ra, w, k⟩ => ⟨θ, σh, A, _, rs, ra, w, fun θ1 H1 A1 v d e1 ra1 r1 w1 => by
    split at w1
    · cases r1 with
      | tup hs r =>
        exact ⟨_, _, rfl, hs, fun p hp => (k.ext e1).tup ra1 r.reverse w1 hp⟩
    · exact w1.elim⟩
end Rp

/-! k43: things otherwise. -/
namespace Rp
open PySem PySem.Spec PyProof.Rows L2
local macro_rules | `(tactic| walk_at "vd") => `(tactic| rfl)
local macro_rules | `(tactic| walk_at "w") => `(tactic| (conv => whnf))
local macro_rules | `(tactic| walk_at "ni") => `(tactic| first | exact ni0 | (refine ni2 ?_ ?_ <;> omega) | (refine ni1 ?_ <;> omega) | (refine ni3 ?_ ?_ ?_ <;> omega))
local macro_rules | `(tactic| walk_at "hp") => `(tactic| first | assumption | exact New.get (by assumption) | exact Put.get (by assumption) | (refine New.old (by assumption) ?_; walk_at "hp") | (refine Kq.old0 (by assumption) ?_; walk_at "hp") | (refine Kq.old (by assumption) (by walk_at "ni") ?_; walk_at "hp") | (refine Put.old (by assumption) (by omega) ?_; walk_at "hp"))
local macro_rules | `(tactic| walk_at "kq") => `(tactic| first | exact Kq.refl _ _ | assumption | (refine Kq.new ?_ (by assumption); walk_at "kq") | (refine Kq.putO ?_ (by assumption) (by omega); walk_at "kq") | (refine Kq.putM ?_ (by assumption) (by simp); walk_at "kq") | (refine Kq.trans0 ?_ (by assumption); walk_at "kq") | (refine Kq.trans ?_ (by assumption); walk_at "kq"))
local macro_rules | `(tactic| walk_at "nw") => `(tactic| (intro k A' n; have e := New.eq n; have l := New.len n))
local macro_rules | `(tactic| walk_at "pt") => `(tactic| (intro A' p; have l := Put.len p))
local macro_rules | `(tactic| walk_at "ix") => `(tactic| first | rfl | assumption | exact at_zero)
local macro_rules | `(tactic| walk_at "ar") => `(tactic| first | omega | exact True.intro | assumption | decide | exact Or.inl ⟨by omega, by omega⟩ | exact Or.inr ⟨by omega, by omega⟩ | exact ⟨by omega, by omega⟩ | exact ⟨by decide, by decide, by decide⟩ | (simp only [List.length_map, List.length_append, List.length_cons, List.length_nil, List.length_range, List.length_replicate, List.length_zip, List.length_drop, List.length_take]; omega) | (rw [sizeLine_eq]; first | decide | (simp; done) | (simp; omega)) | (simp; done))
local macro_rules | `(tactic| walk_at "br") => `(tactic| first | (with_reducible refine Br.t ?_) | (with_reducible refine Br.f ?_) | ((with_reducible refine Br.nf ?_ ?_); (first | with_reducible rfl | assumption | omega | exact (rfl : (_ : Int) = _))) | ((with_reducible refine Br.dt ?_ ?_); (first | assumption | omega | exact (rfl : (_ : Int) = _))) | ((with_reducible refine Br.df ?_ ?_); (first | assumption | omega)) | ((with_reducible refine Br.nt ?_ ?_); (first | assumption | omega)) | ((with_reducible refine Br.yes_of ?_ ?_); (first | with_reducible rfl | assumption | decide | (simp only [List.isEmpty_cons, List.isEmpty_nil, Bool.not_true, Bool.not_false]; done))) | ((with_reducible refine Br.no_of ?_ ?_); (first | with_reducible rfl | assumption | decide | (simp only [List.isEmpty_cons, List.isEmpty_nil, Bool.not_true, Bool.not_false]; done))))
local macro_rules | `(tactic| walk_at "ask") => `(tactic| fail)
local macro_rules | `(tactic| walk_at "ty") => `(tactic| first | exact TyD.int _ | exact TyD.bl _ | exact TyD.non | exact TyD.str _ | exact TyD.tup _ | (apply TyD.lst; walk_at "hp") | (apply TyD.dK; walk_at "hp") | (apply tyd_ins; assumption; assumption; walk_at "hp"))
local macro_rules | `(tactic| walk_at "isi") => `(tactic| (apply Exists.intro; apply Exists.intro; apply Exists.intro; apply And.intro; (first | exact ClsV.ty _ | exact ClsV.own _); apply And.intro; (walk_at "ty"); apply And.intro; (first | exact rfl | exact kit_self)))
local macro_rules | `(tactic| walk_at "ex") => `(tactic| first | (apply Exists.intro; apply Exists.intro; apply Exists.intro; apply And.intro; (walk_at "hp"); apply And.intro; (exact rfl); apply And.intro; (walk_at "vd")) | (apply Exists.intro; apply Exists.intro; apply And.intro; (walk_at "hp"); apply And.intro; (walk_at "hp"); apply And.intro; (first | walk_at "ar" | (simp only [sizeLine_eq, List.length_cons, List.length_nil, List.length_map, List.length_append]; omega))) | (apply Exists.intro; apply Exists.intro; apply And.intro; (walk_at "hp"); apply And.intro; (exact rfl)) | (apply Exists.intro; apply Exists.intro; apply And.intro; (walk_at "hp")) | (apply Exists.intro; apply And.intro; (walk_at "hp"); apply And.intro; (walk_at "ar")) | (apply Exists.intro; apply And.intro; (walk_at "hp"); apply And.intro; (exact rfl)) | (apply Exists.intro; apply And.intro; (walk_at "hp")) | (apply Exists.intro; apply And.intro; (walk_at "ix")))
local macro_rules | `(tactic| walk_at "an") => `(tactic| first | (apply And.intro; (exact Exists.intro _ (by walk_at "hp"))) | (apply And.intro; (walk_at "ar")))
local macro_rules | `(tactic| walk_at "dp") => `(tactic| first | exact DP.bl _ | exact DP.int _ | exact DP.non | exact DP.str _ | (apply DP.tup; walk_at "dps") | (apply DP.lst; (walk_at "hp"); (walk_at "dps")))
local macro_rules | `(tactic| walk_at "dps") => `(tactic| first | exact DPs.nil | (apply DPs.cons; (walk_at "dp"); (walk_at "dps")) | exact dps_ints | exact dps_bools)
local macro_rules | `(tactic| walk_at "sw") => `(tactic| first | exact Sw.bl0 | (apply Sw.int0; exact ⟨by omega, by omega⟩) | exact Sw.non0 | (apply Sws.tup; walk_at "sws") | (apply Sws.lst; walk_at "sws") | (apply Sw.str0; decide +kernel))
local macro_rules | `(tactic| walk_at "sws") => `(tactic| first | exact Sws.nil0 | (apply Sws.cons; (walk_at "sw"); (walk_at "sws")) | (apply Sws.ints; assumption) | exact Sws.bools)
local macro_rules | `(tactic| walk_at "shw") => `(tactic| exact Sw.shw (n := 12) (by walk_at "sw") (by decide) (by first | decide | omega))
local macro_rules | `(tactic| walk_at "shp") => `(tactic| exact Sw.shaped (n := 12) (by walk_at "sw") (by decide))
local macro_rules | `(tactic| walk_at "rp") => `(tactic| first | (apply Exists.intro; apply And.intro; (walk_at "dp"); apply And.intro; (walk_at "shw")) | (apply Exists.intro; apply And.intro; (apply Exists.intro; apply Exists.intro; apply And.intro; (walk_at "dp"); apply And.intro; (walk_at "dp"); apply And.intro; (walk_at "shp"); apply And.intro; (walk_at "shp"); (exact rfl))))
local macro_rules | `(tactic| walk_at "st") => `(tactic| ((conv => whnf); first | walk_at "br" | ((with_reducible refine IfQ.go ?_); (conv => whnf); walk_at "br") | walk_at "nw" | walk_at "pt" | ((with_reducible show Ask _ _ _ _); walk_at "ask") | ((with_reducible show Exists _); first | walk_at "ex" | walk_at "isi" | walk_at "rp") | ((with_reducible show And _ _); walk_at "an") | ((with_reducible show Or _ _); apply Or.inl; apply Exists.intro; apply And.intro; (walk_at "hp"))))
local macro_rules | `(tactic| walk_at "s0") => `(tactic| try ((first | dsimp only [startH] | dsimp only [startHN]); dsimp only [sl_lenC, sl_lenN, sl_mapC, sl_mapN, Nat.reduceAdd, Nat.reduceSub, sl_repS, sl_rep0, sl_appC, sl_appN]))
local macro_rules | `(tactic| walk_at "sn") => `(tactic| try dsimp only [sl_set0, sl_setS])
local macro_rules | `(tactic| walk_at "go") => `(tactic| (walk_at "s0"; walk_at "sn"; (repeat walk_at "st"); (try (conv => whnf))))
local macro_rules | `(tactic| walk_at "lv") => `(tactic| first | exact True.intro | (show _[_]? = some _; walk_at "hp"))
local macro_rules | `(tactic| walk_at "rg") => `(tactic| (refine gI_all ?_ (by first | exact (i01 _).1 | omega) (by first | exact (i01 _).2 | (simp only [List.length_cons, List.length_nil]; omega)); intro x hx; simp only [List.mem_cons, List.not_mem_nil, or_false] at hx; omega))
local macro_rules | `(tactic| walk_at "sq") => `(tactic| (refine Seq.eq ?_; (try dsimp only [sl_set0, sl_setS]); repeat (first | (with_reducible exact Seq.nil) | (with_reducible refine Seq.cons (by rfl) ?_) | exact Seq.nil | (refine Seq.cons (by rfl) ?_))))
local macro_rules | `(tactic| walk_at "pt") => `(tactic| (intro A' p; have l := Put.len p; try rw [pd_at] at p))
local macro_rules | `(tactic| walk_at "vd") => `(tactic| first | exact vd_cells | exact vd_seed | exact vd_at)
local macro_rules | `(tactic| walk_at "dk0") => `(tactic| first | assumption | exact DeckW.new' (by assumption) (by walk_at "dk0") | exact DeckW.kq' (by assumption) (by walk_at "dk0") | exact DeckW.put' (by assumption) (by walk_at "dk0") (by omega) (by omega))
local macro_rules | `(tactic| walk_at "dk") => `(tactic| (refine DeckW.mono (by walk_at "dk0") ?_; omega))
local macro_rules | `(tactic| walk_at "ask") => `(tactic| (refine ask_draw (by walk_at "dk0") (by omega) (by omega) (by omega) ?_; intro d A' d0 d1 D q; have l := Kq.len q))
local macro_rules | `(tactic| walk_at "hp") => `(tactic| first | assumption | exact New.get (by assumption) | exact Put.get (by assumption) | (refine New.old (by assumption) ?_; walk_at "hp") | (refine Kq.old0 (by assumption) ?_; walk_at "hp") | (refine Kq.old_insW (by assumption) (by walk_at "dk0") ?_; walk_at "hp") | (refine Kq.old_tabW (by assumption) (by walk_at "dk0") ?_; walk_at "hp") | (refine Kq.old (by assumption) (by walk_at "ni") ?_; walk_at "hp") | (refine Put.old (by assumption) (by omega) ?_; walk_at "hp"))
theorem at_mem {ds : List D} {i : Int} (h0 : 0 ≤ i) (h1 : i < (ds.length : Nat)) : ∃ d, atI ds i = some d ∧ d ∈ ds := by
  obtain ⟨n, rfl⟩ := Int.eq_ofNat_of_zero_le h0
  have hn : n < ds.length := by omega
  exact ⟨ds[n], atI_nat (List.getElem?_eq_getElem hn), List.getElem_mem hn⟩
theorem cutI_mem {ns : List Int} {lo hi : Option Int} {z : Int} (h : z ∈ cutI ns lo hi) : z ∈ ns := by
  unfold cutI at h
  exact List.mem_of_mem_drop (List.mem_of_mem_take h)
theorem log_ok {i : Int} (h0 : 0 ≤ i) (h1 : i ≤ 1000000) : i.natAbs.log2 < 1920 := by
  have h : i.natAbs < 2 ^ 20 := by omega
  exact Nat.lt_trans (lg2_lt (by decide) h) (by decide)
theorem num_len {i : Int} (h0 : 0 ≤ i) (h1 : i ≤ 1000) : (toString i).length ≤ 8 := by
  have h : i.natAbs < 10 ^ 7 := by omega
  exact int_text_length_le10 (a := i) (k := 7) (by decide) h
def spOther : Sph := fun ds A Q => ∃ k c n s f m w L, ds = [.ptr k, .tup (dI [s, f, m, w]), .tup (dI L)] ∧ KdOk s f m w ∧ DeckW A k c n ∧ 0 ≤ n ∧ n < 100000000 ∧ L.length ≤ 200 ∧ (∀ i ∈ L, 0 ≤ i ∧ i ≤ 1000) ∧ ∀ d A', Th [k, c] A' d → DeckW A' k c (n + 4) → Kq [k, c] A A' → Q d A'
theorem ok_law_otherwise {P : Program} {w : World} {K : PySem.W.Frag} {mg : Str → Option Value} {base : Heap} (W : Wd K mg) : FnOk P w K mg base CX0 6 W.f_law_otherwise W.d_law_otherwise ["_law_deck_here", "_law_kind_here", "_law_road_here"] (spOf K 3 (spOther)) := by
  refine okH (k := 5) W.F_law_otherwise sc_law_otherwise fun cdv Ao outer s H E hr => have hu := hr.units; ⟨_, pssh_cons (psh_asg (lg_tup (lg_cons lg_name (lg_cons lg_name (lg_cons lg_name (lg_cons lg_name lg_nil)))) (len_cons goes_name (len_cons goes_name (len_cons goes_name (len_cons goes_name len_nil))))) (ph_var (pv 1)) (pg_tup rfl (pgs_cons (pg_name (i := 3) sc_law_otherwise.nd rfl (Or.inl rfl)) (pgs_cons (pg_name (i := 4) sc_law_otherwise.nd rfl (Or.inl rfl)) (pgs_cons (pg_name (i := 5) sc_law_otherwise.nd rfl (Or.inl rfl)) (pgs_cons (pg_name (i := 6) sc_law_otherwise.nd rfl (Or.inl rfl)) (pgs_nil)))))))
    (pssh_cons (psh_set (i := 7) sc_law_otherwise.nd rfl (Or.inl rfl) (ph_callO (ok_law_draw W) (hr.mono (by decide)) (by rfl) W.m_law_draw W.F_law_draw.kp W.b_law_draw (pah_cons (ph_var (pv 0)) (pah_cons (ph_op l_add op_addA (ph_callB l_len call_len (by rfl) W.B.len PySem.boot_len (pah_cons (ph_var (pv 2)) pah_nil)) (ph_c pe_int)) pah_nil))))
    (pssh_cons (psh_set (i := 8) sc_law_otherwise.nd rfl (Or.inl rfl) (ph_ix l_ix ix_seq (ph_op l_add op_addA (ph_var (pv 2)) (ph_tup (pah_cons (ph_var (pv 4)) pah_nil))) (ph_var (pv 7)) (fun _ _ => rfl)))
    (pssh_cons (psh_set (i := 9) sc_law_otherwise.nd rfl (Or.inl rfl) (ph_lst (pah_cons (ph_op l_sub op_sub (ph_op l_add op_addA (ph_var (pv 3)) (ph_var (pv 4))) (ph_var (pv 8))) (pah_cons (ph_var (pv 3)) (pah_cons (ph_var (pv 4)) (pah_cons (ph_op l_add op_addA (ph_var (pv 4)) (ph_c pe_int)) (pah_cons (ph_op l_sub op_sub (ph_var (pv 3)) (ph_c pe_int)) (pah_cons (ph_cmp l_eq (op_eqA hu) (ph_var (pv 8)) (ph_c pe_int) (nomark _)) (pah_cons (ph_cmp l_gt op_gt (ph_var (pv 8)) (ph_c pe_int) (nomark _)) (pah_cons (ph_c pe_non) (pah_cons (ph_callTy l_strN cr_strN (by rfl) W.B.str boot_str (pah_cons (ph_var (pv 8)) pah_nil)) (pah_cons (ph_tup (pah_cons (ph_var (pv 8)) pah_nil)) (pah_cons (ph_lst (pah_cons (ph_var (pv 8)) pah_nil)) (pah_cons (ph_dnew) pah_nil))))))))))))))
    (pssh_cons (psh_set (i := 10) sc_law_otherwise.nd rfl (Or.inl rfl) (ph_ix l_ix ix_seq (ph_var (pv 9)) (ph_callO (ok_law_draw W) (hr.mono (by decide)) (by rfl) W.m_law_draw W.F_law_draw.kp W.b_law_draw (pah_cons (ph_var (pv 0)) (pah_cons (ph_c pe_int) pah_nil))) (fun _ _ => rfl)))
    (pssh_cons (psh_set (i := 11) sc_law_otherwise.nd rfl (Or.inl rfl) (ph_lst (pah_cons (ph_op l_add op_addA (ph_op l_add op_addA (ph_slice (ph_var (pv 2)) poh_none (poh_some (ph_var (pv 7)))) (ph_tup (pah_cons (ph_var (pv 10)) pah_nil))) (ph_slice (ph_var (pv 2)) (poh_some (ph_op l_add op_addA (ph_var (pv 7)) (ph_c pe_int))) poh_none)) (pah_cons (ph_op l_add op_addA (ph_op l_add op_addA (ph_slice (ph_var (pv 2)) poh_none (poh_some (ph_var (pv 7)))) (ph_tup (pah_cons (ph_var (pv 10)) pah_nil))) (ph_slice (ph_var (pv 2)) (poh_some (ph_var (pv 7))) poh_none)) (pah_cons (ph_op l_add op_addA (ph_slice (ph_var (pv 2)) poh_none (poh_some (ph_var (pv 7)))) (ph_slice (ph_var (pv 2)) (poh_some (ph_op l_add op_addA (ph_var (pv 7)) (ph_c pe_int))) poh_none)) pah_nil)))))
    (pssh_one (psh_ret (ph_ix l_ix ix_seq (ph_op l_add op_addA (ph_var (pv 11)) (ph_lst (pah_cons (ph_callTy l_list call_list_of (by rfl) W.B.list boot_list (pah_cons (ph_var (pv 2)) pah_nil)) (pah_cons (ph_op l_add op_addA (ph_var (pv 2)) (ph_var (pv 2))) (pah_cons (ph_revT (ph_var (pv 2))) pah_nil))))) (ph_callO (ok_law_draw W) (hr.mono (by decide)) (by rfl) W.m_law_draw W.F_law_draw.kp W.b_law_draw (pah_cons (ph_var (pv 0)) (pah_cons (ph_c pe_int) pah_nil))) (fun _ _ => rfl))))))))), ?_⟩
  rintro ds A Q ⟨k, c, n, s, f, m, w, L, rfl, O, D0, n0, n1, lL, okL, q⟩
  have l0 := D0.lt1
  have l1 := D0.lt2
  have ne := D0.ne
  have o1 := O.s0
  have o2 := O.sf
  have o3 := O.f1
  walk_at "go"
  rw [List.length_map]
  refine ask_draw D0 (by omega) (by omega) (by omega) fun at' A1 a0 a1 D1 q1 => ?_
  obtain ⟨one, hone, one0, one1⟩ : ∃ one : Int, atI (dI L ++ [.v (.int f)]) at' = some (.v (.int one)) ∧ 0 ≤ one ∧ one ≤ 1000 := by
    obtain ⟨d, h, hd⟩ := at_mem (ds := dI L ++ [.v (.int f)]) (i := at') a0 (by rw [List.length_append, List.length_map, List.length_singleton]; omega)
    rcases List.mem_append.mp hd with hd | hd
    · obtain ⟨z, hz, rfl⟩ := List.mem_map.mp hd
      exact ⟨z, h, okL z hz⟩
    · cases List.mem_singleton.mp hd
      exact ⟨f, h, by omega, by omega⟩
  have hsz : sizeLine = 16777216 := sizeLine_eq
  have e1 : (dI L).length ≤ 200 := by rw [List.length_map]; exact lL
  have lg := log_ok one0 (by omega)
  walk_at "go"
  rename_i k2 A2 n2 e2 l2 k3 A3 n3 e3 l3 k4 A4 n4 e4 l4 d5 A5 d50 d51 D5 q5 l5
  have q15 : Kq [k, c] A A5 := by walk_at "kq"
  have lk1 := D1.lt1
  have lc1 := D1.lt2
  have n2k : k2 ∉ [k, c] := ni2 (by omega) (by omega)
  have n3k : k3 ∉ [k, c] := ni2 (by omega) (by omega)
  have h2 := q5.old n2k (n4.old (n3.old n2.get))
  have h3 := q5.old n3k (n4.old n3.get)
  have h4 := q5.old (ni2 (by omega) (by omega)) n4.get
  clear n2 n3 n4 q5 D1 q1
  dsimp only at h4
  obtain ⟨put, hput, mput⟩ := at_mem (ds := [D.v (V.int (s + f - one)), D.v (V.int s), D.v (V.int f), D.v (V.int (f + 1)), D.v (V.int (s - 1)), D.v (V.bl (decide (one = 1))), D.v (V.bl (decide (0 < one))), D.v V.non, D.v (V.str (Str.ofString (toString one))), D.tup [D.v (V.int one)], D.ptr k2, D.ptr k3]) d50 d51
  have itp : It [k, c] A5 put := by
    simp only [List.mem_cons, List.not_mem_nil, or_false] at mput
    rcases mput with rfl | rfl | rfl | rfl | rfl | rfl | rfl | rfl | rfl | rfl | rfl | rfl
    · exact .int _ ⟨by omega, by omega⟩
    · exact .int _ ⟨by omega, by omega⟩
    · exact .int _ ⟨by omega, by omega⟩
    · exact .int _ ⟨by omega, by omega⟩
    · exact .int _ ⟨by omega, by omega⟩
    · exact .bl _
    · exact .bl _
    · exact .non
    · exact .str _ (num_len one0 one1)
    · exact .tup _ ⟨by omega, by omega⟩
    · exact .lst _ ⟨by omega, by omega⟩ n2k h2
    · exact .dct n3k h3
  refine ⟨_, h4, _, hput, ?_⟩
  clear hput mput h2 h3 h4 n2k n3k
  have c1 : ∀ lo hi, (cutD (dI L) lo hi).length ≤ 200 := fun lo hi => by rw [cutD_dI, List.length_map]; exact Nat.le_trans (cutI_len _ _ _) lL
  have c2 := c1 none (some at')
  have c3 := c1 (some (at' + 1)) none
  have c4 := c1 (some at') none
  walk_at "go"
  rename_i k6 A6 n6 e6 l6 k7 A7 n7 e7 l7 k8 A8 n8 e8 l8 k9 A9 n9 e9 l9 d10 A10 d100 d101 D10 q10 l10
  have q610 : Kq [k, c] A5 A10 := by walk_at "kq"
  have h7 : A10[k7]? = some (.lst (dI L)) := q10.old (ni2 (by omega) (by omega)) (n9.old (n8.old n7.get))
  have qall := q15.trans q610
  have itp := itp.kq q610
  have n7k : k7 ∉ [k, c] := ni2 (by omega) (by omega)
  clear n6 n7 n8 n9 q10
  obtain ⟨d, hd, md⟩ := at_mem (ds := [D.tup (cutD (dI L) none (some at') ++ [put] ++ cutD (dI L) (some (at' + 1)) none),
          D.tup (cutD (dI L) none (some at') ++ [put] ++ cutD (dI L) (some at') none),
          D.tup (cutD (dI L) none (some at') ++ cutD (dI L) (some (at' + 1)) none)] ++ [D.ptr k7, D.tup (dI L ++ dI L), D.tup (dI L).reverse]) d100 d101
  have bdL : ∀ i ∈ L, Bd i := fun i hi => by have := okL i hi; exact ⟨by omega, by omega⟩
  have bdC : ∀ lo hi, ∀ i ∈ cutI L lo hi, Bd i := fun lo hi i h => bdL i (cutI_mem h)
  have lC : ∀ lo hi, (cutI L lo hi).length ≤ 200 := fun lo hi => Nat.le_trans (cutI_len _ _ _) lL
  have g1 := lC none (some at')
  have g2 := lC (some (at' + 1)) none
  have g3 := lC (some at') none
  have eap : ∀ a b : List Int, dI a ++ dI b = dI (a ++ b) := fun a b => List.map_append.symm
  refine ⟨d, hd, q d A10 ?_ (D10.mono (by omega)) qall⟩
  simp only [List.cons_append, List.nil_append, List.mem_cons, List.not_mem_nil, or_false, cutD_dI] at md
  rcases md with rfl | rfl | rfl | rfl | rfl | rfl
  · exact .odd _ _ _ (by omega) (bdC _ _) (bdC _ _) itp
  · exact .odd _ _ _ (by omega) (bdC _ _) (bdC _ _) itp
  · rw [eap]
    exact .road _ (by rw [List.length_append]; omega) fun i hi => by
      rcases List.mem_append.mp hi with h | h
      · exact bdC _ _ i h
      · exact bdC _ _ i h
  · exact .lst L (by omega) bdL n7k h7
  · rw [eap]
    exact .road _ (by rw [List.length_append]; omega) fun i hi => by
      rcases List.mem_append.mp hi with h | h
      · exact bdL i h
      · exact bdL i h
  · rw [show (dI L).reverse = dI L.reverse from List.map_reverse.symm]
    exact .road _ (by rw [List.length_reverse]; omega) fun i hi => bdL i (List.mem_reverse.mp hi)
end Rp

/-! The end of a row: the guards known, tables of code, the script's bits. -/
namespace Rp
open PySem PySem.Spec PyProof.Rows L2
section
variable {P : Program} {w : World} {K : PySem.W.Frag} {mg mb : Str → Option Value} {CX : CXT} {k : Nat} {fa a : Addr} {fd : FuncData} {x : Str} {sp : Sp} {s : Shared} {vs : List Value} {ns : List Int} {cs : List (Addr × Addr)}
theorem law_coreT {H : Hp} (inK : K.In s.heap) (gl : s.heap.Ns mainGlobals mg) (bn : s.heap.Ns builtinsNs mb) (boot : ∀ y : Str, y ≠ "__name__" → mb y = bootBuiltins y) (lim : s.heap.NoLimit) (gens : s.gens = #[])
    (hT : ∀ p ∈ cs, s.heap.get? p.2 = some { cls := .none, data := .fields #[] }) (nT : ∀ p ∈ cs, K.lookup p.2 = none) (C : ∀ p ∈ cs, PySem.W.CodeHd s.heap p.1 p.2)
    (hbm : ∃ bm ob, mg "__builtins__" = some (.ref bm) ∧ bm ≠ builtinsNs ∧ s.heap.get? bm = some ob ∧ ob.cls = .type "module" ∧ ob.dict = some builtinsNs ∧ ob.data = .plain)
    (at_ : s.heap.get? a = some { cls := .type "list", data := .seq vs.toArray }) (room : Room k callerA)
    (F : ∀ base : Heap, K.In base → base.Ns mainGlobals mg → (∀ p ∈ cs, LamX.TabB base mg p.1 p.2) → FnG P w K mg base CX k fa fd [x] sp) (bind : ∀ (s : Shared) (u : Value), BindsTo s fd ⟨[u], []⟩ [(x, u)])
    (one : ∀ b, b ∉ cs.map (fun p : Addr × Addr => p.2) → H b = none ∨ ∃ o xs, H b = some (.frz o (.lst xs))) (tab : ∀ p ∈ cs, H p.2 = some (.tbl #[])) (ok : HOk P w H s.heap) (alone : ∀ b, H b ≠ none → b = a ∨ b ∈ cs.map (fun p : Addr × Addr => p.2)) (apart : H a ≠ none → K.lookup a = none)
    (keeps : sp [.ref a] H (fun v _ => v = .bl true) fun _ _ _ => False) (noX : ∀ e s', CX [] H s (fun _ _ _ => False) e s' → False) :
    codeAny (model P w) callerA (.call (.ref fa) ⟨[.ref a], []⟩) (fun r s' => r = .ok (.ret (.bool true)) ∧ OldK s.heap s'.heap ∧ s'.os = s.os ∧ AllBare s'.gens) s := by
  have isT : ∀ b, b ∈ cs.map (fun p : Addr × Addr => p.2) → s.heap.get? b = some { cls := .none, data := .fields #[] } := fun b hb => by
    obtain ⟨p, hp, rfl⟩ := List.mem_map.mp hb
    exact hT p hp
  have noD : ∀ {b : Addr} {o : Obj}, s.heap.get? b = some o → (∀ vs n, o.data ≠ .seq vs n) → o.data ≠ .fields #[] → H b = none := fun {b o} e h1 h2 => by
    by_cases q : H b = none
    · exact q
    · rcases alone b q with z | z
      · subst z
        rw [at_] at e
        cases e
        exact absurd rfl (h1 vs.toArray 0)
      · rw [isT b z] at e
        cases e
        exact absurd rfl h2
  have noDict : ∀ {b : Addr} {o : Obj} {es : Array DictEntry} {ep : Nat}, s.heap.get? b = some o → o.data = .dict es ep → H b = none := fun {b o es ep} e d => noD e (fun vs n z => by rw [d] at z; cases z) (fun z => by rw [d] at z; cases z)
  have ns' : ∀ {b : Addr} {m : Str → Option Value}, s.heap.Ns b m → (hidT s.heap H).Ns b m := fun {b m} ⟨o, es, ep, e, d, r⟩ => ⟨o, es, ep, hidT_get e (noDict e d), d, r⟩
  have inB : K.In (hidT s.heap H) := fun b o e => hidT_get (inK b o e) (by
    by_cases q : H b = none
    · exact q
    · rcases alone b q with z | z
      · subst z
        rw [apart q] at e
        cases e
      · obtain ⟨p, hp, rfl⟩ := List.mem_map.mp z
        rw [nT p hp] at e
        cases e)
  obtain ⟨mc, lim1, lim2⟩ := lim
  have md : Mod K mg (hidT s.heap H) := ⟨inB, ns' gl, ⟨mb, ns' bn, boot⟩, ⟨mc, ns' lim1, lim2⟩⟩
  have TB : ∀ p ∈ cs, LamX.TabB (hidT s.heap H) mg p.1 p.2 := fun p hp => by
    refine ⟨?_, ?_, fun z => ?_⟩
    · obtain ⟨o, us, file, tf, flags, tg, inF, text, tt, e1, r1, r2, r3⟩ := C p hp
      refine ⟨o, us, file, tf, flags, tg, inF, text, tt, hidT_get e1 (noD e1 (fun vs n z => by rw [r2] at z; cases z) fun z => ?_), r1, r2, r3⟩
      rw [r2] at z
      have z : us = #[] := by injection z
      obtain ⟨q, _⟩ := r3
      subst z
      simp at q
    · obtain ⟨bm, ob, b1, b2, b3, b4, b5, b6⟩ := hbm
      refine ⟨bm, ob, b1, b2, fun q => ?_, fun q => ?_, hidT_get b3 (noD b3 (fun vs n z => by rw [b6] at z; cases z) fun z => by rw [b6] at z; cases z), b4, b5, b6⟩
      · subst q
        obtain ⟨o, es, ep, e, d, _⟩ := gl
        rw [b3] at e
        cases e
        rw [b6] at d
        cases d
      · subst q
        rw [hT p hp] at b3
        cases b3
        cases b6
    · obtain ⟨o, es, ep, e, d, _⟩ := gl
      rw [z, hT p hp] at e
      cases e
      cases d
  have en : Env0 P w K mg (hidT s.heap H) callerA [] s H := ⟨rfl, md, fun b o e => of_hidT e, Nat.le_of_eq (hidT_size _ _), trivial, fun b z => absurd z List.not_mem_nil, ok, .of_eq gens⟩
  refine codeAny_mono ((F _ inB (ns' gl) TB).go callerA [] s H ⟨[.ref a], []⟩ [.ref a] [.ref a] _ _ rfl room en (bind s (.ref a)) (.cons rfl .nil) keeps) fun r s' hr => ?_
  rcases r with e | fl
  · exact (noX e s' hr).elim
  · cases fl with
    | ret u =>
      obtain ⟨v, H', os, bare, un, ok', rv, rfl⟩ := hr
      cases rv
      have key : ∀ b o, b ∉ cs.map (fun p : Addr × Addr => p.2) → s.heap.get? b = some o → s'.heap.get? b = some o := fun b o nb e => by
        rcases one b nb with q | ⟨ob, xs, q⟩
        · exact un.keep b o e q (fun z => by cases z) (fun z => by cases z)
        · have e1 := (ok b _ q).1
          have e2 := (ok' b _ (un.frzs b ob _ q)).1
          rw [e] at e1
          cases e1
          exact e2
      have grown : ∀ p ∈ cs, ∃ more : Array Value, s'.heap.get? p.2 = some { cls := .none, data := .fields (#[] ++ more) } := fun p hp => by
        obtain ⟨more, z⟩ := un.tbls p.2 #[] (tab p hp)
        exact ⟨more, ok' p.2 _ z⟩
      refine ⟨rfl, ⟨fun b o e => ?_, fun b o e => ?_⟩, os, bare⟩
      · by_cases hb : b ∈ cs.map (fun p : Addr × Addr => p.2)
        · obtain ⟨p, hp, rfl⟩ := List.mem_map.mp hb
          obtain ⟨more, g⟩ := grown p hp
          rw [hT p hp] at e
          cases e
          obtain ⟨o, us, file, tf, flags, tg, inF, text, tt, e1, r1, r2, r3, _⟩ := C p hp
          exact .inr (.inl ⟨⟨p.1, o, us, e1, r1, r2, r3⟩, rfl, #[], more, rfl, g⟩)
        · exact .inl (key b o hb e)
      · by_cases hb : b ∈ cs.map (fun p : Addr × Addr => p.2)
        · obtain ⟨p, hp, rfl⟩ := List.mem_map.mp hb
          obtain ⟨more, g⟩ := grown p hp
          exact ⟨_, g⟩
        · exact ⟨o, key b o hb e⟩
    | next => exact hr.elim
    | brk => exact hr.elim
    | cont => exact hr.elim
/-- the heap as the law finds it: the script, if it is no written list, and the tables -/
def StartH (cs : List (Addr × Addr)) (H : Hp) : Prop := ∀ p ∈ cs, H p.2 = some (.tbl #[])
theorem law_callT (inK : K.In s.heap) (gl : s.heap.Ns mainGlobals mg) (bn : s.heap.Ns builtinsNs mb) (boot : ∀ y : Str, y ≠ "__name__" → mb y = bootBuiltins y) (lim : s.heap.NoLimit) (gens : s.gens = #[])
    (hT : ∀ p ∈ cs, s.heap.get? p.2 = some { cls := .none, data := .fields #[] }) (nT : ∀ p ∈ cs, K.lookup p.2 = none) (C : ∀ p ∈ cs, PySem.W.CodeHd s.heap p.1 p.2)
    (hbm : ∃ bm ob, mg "__builtins__" = some (.ref bm) ∧ bm ≠ builtinsNs ∧ s.heap.get? bm = some ob ∧ ob.cls = .type "module" ∧ ob.dict = some builtinsNs ∧ ob.data = .plain)
    (at_ : s.heap.get? a = some { cls := .type "list", data := .seq vs.toArray }) (hin : IntsAre vs ns) (few : ns.length ≤ sizeLine) (room : Room k callerA)
    (F : ∀ base : Heap, K.In base → base.Ns mainGlobals mg → (∀ p ∈ cs, LamX.TabB base mg p.1 p.2) → FnG P w K mg base CX k fa fd [x] sp) (bind : ∀ (s : Shared) (u : Value), BindsTo s fd ⟨[u], []⟩ [(x, u)])
    (keeps : ∀ H : Hp, StartH cs H → SqF K H a (ns.map V.int) → sp [.ref a] H (fun v _ => v = .bl true) fun _ _ _ => False) (noX : ∀ H e s', CX [] H s (fun _ _ _ => False) e s' → False) :
    codeAny (model P w) callerA (.call (.ref fa) ⟨[.ref a], []⟩) (fun r s' => r = .ok (.ret (.bool true)) ∧ OldK s.heap s'.heap ∧ s'.os = s.os ∧ AllBare s'.gens) s := by
  have rel := vals_ints hin
  have aT : a ∉ cs.map (fun p : Addr × Addr => p.2) := fun z => by
    obtain ⟨p, hp, e⟩ := List.mem_map.mp z
    have := hT p hp
    rw [e, at_] at this
    cases this
  cases lk : K.lookup a with
  | some o =>
    have e := inK a o lk
    rw [at_] at e
    cases e
    refine law_coreT (H := fun b => if b ∈ cs.map (fun p : Addr × Addr => p.2) then some (.tbl #[]) else none) inK gl bn boot lim gens hT nT C hbm at_ room F bind (fun b nb => .inl (if_neg nb)) (fun p hp => if_pos (List.mem_map.mpr ⟨p, hp, rfl⟩)) (fun b u z => ?_) (fun b z => ?_) (fun z => (z (if_neg aT)).elim) (keeps _ (fun p hp => if_pos (List.mem_map.mpr ⟨p, hp, rfl⟩)) ?_) (noX _)
    · have z : (if b ∈ cs.map (fun p : Addr × Addr => p.2) then some (HO.tbl #[]) else none) = some u := z
      by_cases q : b ∈ cs.map (fun p : Addr × Addr => p.2)
      · rw [if_pos q] at z
        cases z
        obtain ⟨p, hp, rfl⟩ := List.mem_map.mp q
        exact hT p hp
      · rw [if_neg q] at z; cases z
    · by_cases q : b ∈ cs.map (fun p : Addr × Addr => p.2)
      · exact .inr q
      · exact (z (if_neg q)).elim
    · exact .inr ⟨_, vs.toArray, _, lk, rfl, rfl, rfl, by rw [List.size_toArray, hin.length]; exact few, by simpa using rel⟩
  | none =>
    have here : (fun b => if b = a then some (HO.frz { cls := .type "list", data := .seq vs.toArray } (.lst (ns.map V.int))) else if b ∈ cs.map (fun p : Addr × Addr => p.2) then some (.tbl #[]) else none) a = some (HO.frz { cls := .type "list", data := .seq vs.toArray } (.lst (ns.map V.int))) := if_pos rfl
    have tab : ∀ p ∈ cs, (fun b => if b = a then some (HO.frz { cls := .type "list", data := .seq vs.toArray } (.lst (ns.map V.int))) else if b ∈ cs.map (fun p : Addr × Addr => p.2) then some (.tbl #[]) else none) p.2 = some (.tbl #[]) := fun p hp => by
      have hm : p.2 ∈ cs.map (fun p : Addr × Addr => p.2) := List.mem_map.mpr ⟨p, hp, rfl⟩
      show (if p.2 = a then _ else if p.2 ∈ cs.map (fun p : Addr × Addr => p.2) then some (HO.tbl #[]) else none) = _
      rw [if_neg (fun z => aT (by rw [← z]; exact hm)), if_pos hm]
    refine law_coreT (H := fun b => if b = a then some (HO.frz { cls := .type "list", data := .seq vs.toArray } (.lst (ns.map V.int))) else if b ∈ cs.map (fun p : Addr × Addr => p.2) then some (.tbl #[]) else none) inK gl bn boot lim gens hT nT C hbm at_ room F bind (fun b nb => ?_) tab (fun b u z => ?_) (fun b z => ?_) (fun _ => lk) (keeps _ tab (.inl ⟨_, here⟩)) (noX _)
    · by_cases q : b = a
      · exact .inr ⟨_, _, if_pos q⟩
      · exact .inl (by show (if b = a then _ else if b ∈ cs.map (fun p : Addr × Addr => p.2) then some (HO.tbl #[]) else none) = none; rw [if_neg q, if_neg nb])
    · by_cases q : b = a
      · subst q
        have z' := here.symm.trans z
        cases z'
        exact ⟨at_, by rw [List.length_map]; exact few, vs, 0, rel, at_⟩
      · have z : (if b = a then _ else if b ∈ cs.map (fun p : Addr × Addr => p.2) then some (HO.tbl #[]) else none) = some u := z
        rw [if_neg q] at z
        by_cases q2 : b ∈ cs.map (fun p : Addr × Addr => p.2)
        · rw [if_pos q2] at z
          cases z
          obtain ⟨p, hp, rfl⟩ := List.mem_map.mp q2
          exact hT p hp
        · rw [if_neg q2] at z; cases z
    · by_cases q : b = a
      · exact .inl q
      · by_cases q2 : b ∈ cs.map (fun p : Addr × Addr => p.2)
        · exact .inr q2
        · exact (z (by show (if b = a then _ else if b ∈ cs.map (fun p : Addr × Addr => p.2) then some (HO.tbl #[]) else none) = none; rw [if_neg q, if_neg q2])).elim
end
/-- the end of a row -/
theorem walkT {l : PySem.W.OpenLaw} {n k m : Nat} {q : Program} {loose : List Str} {XP : (Str → Option Value) → Heap → Prop} {YP : World → Heap → Prop} {d : DefRec} {K : Params → PySem.W.Frag} {CX : World → CXT} {sp : PySem.W.Frag → List (Addr × Addr) → Sp} {x : Str}
    (hn : l.most = some n) (hn2 : n ≤ sizeLine) (hdf : d.params.defaults = []) (room : Room k callerA) (hY : ∀ (w : World) (h : Heap), YP w h → (K w.params).In h)
    (F : ∀ (w : World) (mg : Str → Option Value) (fa : Addr) (h : Heap), YP w h → (K w.params).In h → h.Ns mainGlobals mg → mg d.name = some (.ref fa) →
      ∃ (cs : List (Addr × Addr)) (fd : FuncData), (∀ p ∈ cs, h.get? p.2 = some { cls := .none, data := .fields #[] }) ∧ (∀ p ∈ cs, (K w.params).lookup p.2 = none) ∧ (∀ p ∈ cs, PySem.W.CodeHd h p.1 p.2) ∧ (∀ (s : Shared) (u : Value), BindsTo s fd ⟨[u], []⟩ [(x, u)]) ∧
        ((cs.map (fun p : Addr × Addr => p.2)).Nodup ∧ cs.length = m) ∧ ∀ base : Heap, (K w.params).In base → base.Ns mainGlobals mg → (∀ p ∈ cs, LamX.TabB base mg p.1 p.2) → FnG l.prog w (K w.params) mg base (CX w) k fa fd [x] (sp (K w.params) cs))
    (keeps : ∀ (K : PySem.W.Frag) (cs : List (Addr × Addr)) (H : Hp) (a : Addr) (ns : List Int), (cs.map (fun p : Addr × Addr => p.2)).Nodup → cs.length = m → ns.length ≤ n → (∀ z ∈ ns, Builtin.Int.intBits z ≤ 1048576) → StartH cs H → SqF K H a (ns.map V.int) → sp K cs [.ref a] H (fun v _ => v = .bl true) fun _ _ _ => False)
    (noX : ∀ (w : World) (H : Hp) (s : Shared) (e : Value) (s' : Shared), CX w [] H s (fun _ _ _ => False) e s' → False) : PySem.W.WalkO q loose XP YP l.row.toRowW d [] (fun f vs => PySem.call f vs) := by
  refine Att.attach_callB hn hdf fun w s0 s1 mg mb fa o pm cd doc a vs ns G Y ho hd hcd hmg hobj hints hlen hbits hg => ?_
  have KX := hY w s1.heap Y
  obtain ⟨cs, fd, hT, nT, C, hb, ⟨nd, hm⟩, hF⟩ := F w mg fa s1.heap Y KX G.T.g hmg
  exact law_callT KX G.T.g G.T.b G.T.builtins G.T.nolimit hg hT nT C G.T.bmain hobj hints (Nat.le_trans hlen hn2) room hF hb (fun H hH sq => keeps (K w.params) cs H a ns nd hm hlen hbits hH sq) fun H e s' => noX w H s1 e s'
/-- what the law is handed: the script, the tables -/
def spLawT (nms : List (Nat → Nat → Str)) (cs : List (Addr × Addr)) : Sph := fun ds A Q => ∃ ns : List Int, ds = [.scr ns] ∧ ns.length ≤ 63 ∧ (∀ z ∈ ns, Builtin.Int.intBits z ≤ 1048576) ∧ (∀ (i : Nat) (p : Addr × Addr) (nm : Nat → Nat → Str), cs[i]? = some p → nms[i]? = some nm → A[i]? = some (.tab p.2 nm)) ∧ A.length = cs.length ∧ ∀ A', Q (.v (.bl true)) A'
theorem lawT {K : PySem.W.Frag} {H : Hp} {a : Addr} {ns : List Int} {cs : List (Addr × Addr)} {nms : List (Nat → Nat → Str)} (hl : nms.length = cs.length) (nd : (cs.map (fun p : Addr × Addr => p.2)).Nodup) (hn : ns.length ≤ 63) (hb : ∀ z ∈ ns, Builtin.Int.intBits z ≤ 1048576) (on : StartH cs H) (hS : SqF K H a (ns.map V.int)) :
    spOf K 1 (spLawT nms cs) [.ref a] H (fun v _ => v = .bl true) fun _ _ _ => False := by
  refine ⟨rfl, cs.map (fun p : Addr × Addr => p.2), [.scr ns], (cs.zip nms).map (fun p => .tab p.1.2 p.2), fun d _ => d = .v (.bl true), .cons (.scr hS) .nil, ⟨?_, nd, fun i b o h1 h2 => ?_⟩, ⟨ns, rfl, hn, hb, fun i p nm h1 h2 => ?_, ?_, fun _ => rfl⟩, fun θ' H' A' v d e ra r q => ?_⟩
  · rw [List.length_map, List.length_map, List.length_zip]; omega
  · rw [List.getElem?_map] at h1 h2
    obtain ⟨p, hp, rfl⟩ := Option.map_eq_some_iff.mp h1
    obtain ⟨⟨p', nm⟩, hz, rfl⟩ := Option.map_eq_some_iff.mp h2
    rw [List.getElem?_zip_eq_some] at hz
    have hz1 : cs[i]? = some p' := hz.1
    rw [hp] at hz1
    cases hz1
    exact ⟨rfl, NdefX.TabN.nil (on p (List.mem_of_getElem? hp))⟩
  · rw [List.getElem?_map, List.getElem?_zip_eq_some (z := (p, nm)).mpr ⟨h1, h2⟩]; rfl
  · rw [List.length_map, List.length_zip]; omega
  · subst q
    cases r
    rfl
end Rp

/-! k43: the law. -/
namespace Rp
open PySem PySem.Spec PyProof.Rows L2
local macro_rules | `(tactic| walk_at "vd") => `(tactic| rfl)
local macro_rules | `(tactic| walk_at "w") => `(tactic| (conv => whnf))
local macro_rules | `(tactic| walk_at "ni") => `(tactic| first | exact ni0 | (refine ni2 ?_ ?_ <;> omega) | (refine ni1 ?_ <;> omega) | (refine ni3 ?_ ?_ ?_ <;> omega))
local macro_rules | `(tactic| walk_at "hp") => `(tactic| first | assumption | exact New.get (by assumption) | exact Put.get (by assumption) | (refine New.old (by assumption) ?_; walk_at "hp") | (refine Kq.old0 (by assumption) ?_; walk_at "hp") | (refine Kq.old (by assumption) (by walk_at "ni") ?_; walk_at "hp") | (refine Put.old (by assumption) (by omega) ?_; walk_at "hp"))
local macro_rules | `(tactic| walk_at "kq") => `(tactic| first | exact Kq.refl _ _ | assumption | (refine Kq.new ?_ (by assumption); walk_at "kq") | (refine Kq.putO ?_ (by assumption) (by omega); walk_at "kq") | (refine Kq.putM ?_ (by assumption) (by simp); walk_at "kq") | (refine Kq.trans0 ?_ (by assumption); walk_at "kq") | (refine Kq.trans ?_ (by assumption); walk_at "kq"))
local macro_rules | `(tactic| walk_at "nw") => `(tactic| (intro k A' n; have e := New.eq n; have l := New.len n))
local macro_rules | `(tactic| walk_at "pt") => `(tactic| (intro A' p; have l := Put.len p))
local macro_rules | `(tactic| walk_at "ix") => `(tactic| first | rfl | assumption | exact at_zero)
local macro_rules | `(tactic| walk_at "ar") => `(tactic| first | omega | exact True.intro | assumption | decide | exact Or.inl ⟨by omega, by omega⟩ | exact Or.inr ⟨by omega, by omega⟩ | exact ⟨by omega, by omega⟩ | exact ⟨by decide, by decide, by decide⟩ | (simp only [List.length_map, List.length_append, List.length_cons, List.length_nil, List.length_range, List.length_replicate, List.length_zip, List.length_drop, List.length_take]; omega) | (rw [sizeLine_eq]; first | decide | (simp; done) | (simp; omega)) | (simp; done))
local macro_rules | `(tactic| walk_at "br") => `(tactic| first | (with_reducible refine Br.t ?_) | (with_reducible refine Br.f ?_) | ((with_reducible refine Br.nf ?_ ?_); (first | with_reducible rfl | assumption | omega | exact (rfl : (_ : Int) = _))) | ((with_reducible refine Br.dt ?_ ?_); (first | assumption | omega | exact (rfl : (_ : Int) = _))) | ((with_reducible refine Br.df ?_ ?_); (first | assumption | omega)) | ((with_reducible refine Br.nt ?_ ?_); (first | assumption | omega)) | ((with_reducible refine Br.yes_of ?_ ?_); (first | with_reducible rfl | assumption | decide | (simp only [List.isEmpty_cons, List.isEmpty_nil, Bool.not_true, Bool.not_false]; done))) | ((with_reducible refine Br.no_of ?_ ?_); (first | with_reducible rfl | assumption | decide | (simp only [List.isEmpty_cons, List.isEmpty_nil, Bool.not_true, Bool.not_false]; done))))
local macro_rules | `(tactic| walk_at "ask") => `(tactic| fail)
local macro_rules | `(tactic| walk_at "ty") => `(tactic| first | exact TyD.int _ | exact TyD.bl _ | exact TyD.non | exact TyD.str _ | exact TyD.tup _ | (apply TyD.lst; walk_at "hp") | (apply TyD.dK; walk_at "hp") | (apply tyd_ins; assumption; assumption; walk_at "hp"))
local macro_rules | `(tactic| walk_at "isi") => `(tactic| (apply Exists.intro; apply Exists.intro; apply Exists.intro; apply And.intro; (first | exact ClsV.ty _ | exact ClsV.own _); apply And.intro; (walk_at "ty"); apply And.intro; (first | exact rfl | exact kit_self)))
local macro_rules | `(tactic| walk_at "ex") => `(tactic| first | (apply Exists.intro; apply Exists.intro; apply Exists.intro; apply And.intro; (walk_at "hp"); apply And.intro; (exact rfl); apply And.intro; (walk_at "vd")) | (apply Exists.intro; apply Exists.intro; apply And.intro; (walk_at "hp"); apply And.intro; (walk_at "hp"); apply And.intro; (first | walk_at "ar" | (simp only [sizeLine_eq, List.length_cons, List.length_nil, List.length_map, List.length_append]; omega))) | (apply Exists.intro; apply Exists.intro; apply And.intro; (walk_at "hp"); apply And.intro; (exact rfl)) | (apply Exists.intro; apply Exists.intro; apply And.intro; (walk_at "hp")) | (apply Exists.intro; apply And.intro; (walk_at "hp"); apply And.intro; (walk_at "ar")) | (apply Exists.intro; apply And.intro; (walk_at "hp"); apply And.intro; (exact rfl)) | (apply Exists.intro; apply And.intro; (walk_at "hp")) | (apply Exists.intro; apply And.intro; (walk_at "ix")))
local macro_rules | `(tactic| walk_at "an") => `(tactic| first | (apply And.intro; (exact Exists.intro _ (by walk_at "hp"))) | (apply And.intro; (walk_at "ar")))
local macro_rules | `(tactic| walk_at "dp") => `(tactic| first | exact DP.bl _ | exact DP.int _ | exact DP.non | exact DP.str _ | (apply DP.tup; walk_at "dps") | (apply DP.lst; (walk_at "hp"); (walk_at "dps")))
local macro_rules | `(tactic| walk_at "dps") => `(tactic| first | exact DPs.nil | (apply DPs.cons; (walk_at "dp"); (walk_at "dps")) | exact dps_ints | exact dps_bools)
local macro_rules | `(tactic| walk_at "sw") => `(tactic| first | exact Sw.bl0 | (apply Sw.int0; exact ⟨by omega, by omega⟩) | exact Sw.non0 | (apply Sws.tup; walk_at "sws") | (apply Sws.lst; walk_at "sws") | (apply Sw.str0; decide +kernel))
local macro_rules | `(tactic| walk_at "sws") => `(tactic| first | exact Sws.nil0 | (apply Sws.cons; (walk_at "sw"); (walk_at "sws")) | (apply Sws.ints; assumption) | exact Sws.bools)
local macro_rules | `(tactic| walk_at "shw") => `(tactic| exact Sw.shw (n := 12) (by walk_at "sw") (by decide) (by first | decide | omega))
local macro_rules | `(tactic| walk_at "shp") => `(tactic| exact Sw.shaped (n := 12) (by walk_at "sw") (by decide))
local macro_rules | `(tactic| walk_at "rp") => `(tactic| first | (apply Exists.intro; apply And.intro; (walk_at "dp"); apply And.intro; (walk_at "shw")) | (apply Exists.intro; apply And.intro; (apply Exists.intro; apply Exists.intro; apply And.intro; (walk_at "dp"); apply And.intro; (walk_at "dp"); apply And.intro; (walk_at "shp"); apply And.intro; (walk_at "shp"); (exact rfl))))
local macro_rules | `(tactic| walk_at "st") => `(tactic| ((conv => whnf); first | walk_at "br" | ((with_reducible refine IfQ.go ?_); (conv => whnf); walk_at "br") | walk_at "nw" | walk_at "pt" | ((with_reducible show Ask _ _ _ _); walk_at "ask") | ((with_reducible show Exists _); first | walk_at "ex" | walk_at "isi" | walk_at "rp") | ((with_reducible show And _ _); walk_at "an") | ((with_reducible show Or _ _); apply Or.inl; apply Exists.intro; apply And.intro; (walk_at "hp"))))
local macro_rules | `(tactic| walk_at "s0") => `(tactic| try ((first | dsimp only [startH] | dsimp only [startHN]); dsimp only [sl_lenC, sl_lenN, sl_mapC, sl_mapN, Nat.reduceAdd, Nat.reduceSub, sl_repS, sl_rep0, sl_appC, sl_appN]))
local macro_rules | `(tactic| walk_at "sn") => `(tactic| try dsimp only [sl_set0, sl_setS])
local macro_rules | `(tactic| walk_at "go") => `(tactic| (walk_at "s0"; walk_at "sn"; (repeat walk_at "st"); (try (conv => whnf))))
local macro_rules | `(tactic| walk_at "lv") => `(tactic| first | exact True.intro | (show _[_]? = some _; walk_at "hp"))
local macro_rules | `(tactic| walk_at "rg") => `(tactic| (refine gI_all ?_ (by first | exact (i01 _).1 | omega) (by first | exact (i01 _).2 | (simp only [List.length_cons, List.length_nil]; omega)); intro x hx; simp only [List.mem_cons, List.not_mem_nil, or_false] at hx; omega))
local macro_rules | `(tactic| walk_at "sq") => `(tactic| (refine Seq.eq ?_; (try dsimp only [sl_set0, sl_setS]); repeat (first | (with_reducible exact Seq.nil) | (with_reducible refine Seq.cons (by rfl) ?_) | exact Seq.nil | (refine Seq.cons (by rfl) ?_))))
local macro_rules | `(tactic| walk_at "pt") => `(tactic| (intro A' p; have l := Put.len p; try rw [pd_at] at p))
local macro_rules | `(tactic| walk_at "vd") => `(tactic| first | exact vd_cells | exact vd_seed | exact vd_at)
local macro_rules | `(tactic| walk_at "dk0") => `(tactic| first | assumption | exact DeckW.new' (by assumption) (by walk_at "dk0") | exact DeckW.kq' (by assumption) (by walk_at "dk0") | exact DeckW.put' (by assumption) (by walk_at "dk0") (by omega) (by omega))
local macro_rules | `(tactic| walk_at "dk") => `(tactic| (refine DeckW.mono (by walk_at "dk0") ?_; omega))
local macro_rules | `(tactic| walk_at "ask") => `(tactic| (refine ask_draw (by walk_at "dk0") (by omega) (by omega) (by omega) ?_; intro d A' d0 d1 D q; have l := Kq.len q))
local macro_rules | `(tactic| walk_at "hp") => `(tactic| first | assumption | exact New.get (by assumption) | exact Put.get (by assumption) | (refine New.old (by assumption) ?_; walk_at "hp") | (refine Kq.old0 (by assumption) ?_; walk_at "hp") | (refine Kq.old_insW (by assumption) (by walk_at "dk0") ?_; walk_at "hp") | (refine Kq.old_tabW (by assumption) (by walk_at "dk0") ?_; walk_at "hp") | (refine Kq.old (by assumption) (by walk_at "ni") ?_; walk_at "hp") | (refine Put.old (by assumption) (by omega) ?_; walk_at "hp"))
theorem rep_int (n : Nat) (v : Int) : (List.replicate n [D.v (.int v)]).flatten = dI (List.replicate n v) := by
  induction n with
  | zero => rfl
  | succ n ih => rw [List.replicate_succ, List.flatten_cons, ih, List.replicate_succ]; rfl
theorem th_rep {X : List Nat} {A : OH} {n : Nat} {v : Int} (h : Bd v) (hn : n ≤ 10) : Th X A (.tup (List.replicate n [D.v (.int v)]).flatten) := by
  rw [rep_int]
  exact .road _ (by rw [List.length_replicate]; omega) fun i hi => by rw [List.eq_of_mem_replicate hi]; exact h
theorem ok_law {P : Program} {w : World} {K : PySem.W.Frag} {mg : Str → Option Value} {base : Heap} (W : Wd K mg) : FnG P w K mg base CX0 8 W.f_law W.d_law ["_law_script"] (spOf K 1 (spLawH)) := by
  refine okGH (k := 7) W.F_law sc_law fun cdv Ao outer s H E gA hr => have hu := hr.units; ⟨_, pssh_cons (psh_set (i := 1) sc_law.nd rfl (Or.inl rfl) (ph_callO (ok_law_deck W) (hr.mono (by decide)) (by rfl) W.m_law_deck W.F_law_deck.kp W.b_law_deck (pah_cons (ph_var (pv 0)) pah_nil)))
    (pssh_cons (psj_for lg_name PassesOwn.never rfl (pih_range1 (by rfl) W.B.range (pah_cons (ph_callB l_max (call_maxA rfl) (by rfl) W.B.max (by decide +kernel) (pah_cons (ph_c pe_int) (pah_cons (ph_callB l_min (call_minA rfl) (by rfl) W.B.min (by decide +kernel) (pah_cons (ph_c pe_int) (pah_cons (ph_callB l_len call_len (by rfl) W.B.len PySem.boot_len (pah_cons (ph_var (pv 0)) pah_nil)) pah_nil))) pah_nil))) pah_nil)) (pg_name (i := 2) sc_law.nd rfl (Or.inl rfl)) (pssh_cons (psh_set (i := 3) sc_law.nd rfl (Or.inl rfl) (ph_callO (ok_law_kind W) (hr.mono (by decide)) (by rfl) W.m_law_kind W.F_law_kind.kp W.b_law_kind (pah_cons (ph_var (pv 1)) pah_nil)))
      (pssh_cons (psh_asg (lg_tup (lg_cons lg_name (lg_cons lg_name (lg_cons lg_name (lg_cons lg_name lg_nil)))) (len_cons goes_name (len_cons goes_name (len_cons goes_name (len_cons goes_name len_nil))))) (ph_var (pv 3)) (pg_tup rfl (pgs_cons (pg_name (i := 4) sc_law.nd rfl (Or.inl rfl)) (pgs_cons (pg_name (i := 5) sc_law.nd rfl (Or.inl rfl)) (pgs_cons (pg_name (i := 6) sc_law.nd rfl (Or.inl rfl)) (pgs_cons (pg_name (i := 7) sc_law.nd rfl (Or.inl rfl)) (pgs_nil)))))))
      (pssh_cons (psh_set (i := 8) sc_law.nd rfl (Or.inl rfl) (ph_tup (pah_cons (ph_var (pv 4)) (pah_cons (ph_var (pv 5)) (pah_cons (ph_callB l_max (call_maxA rfl) (by rfl) W.B.max (by decide +kernel) (pah_cons (ph_c pe_int) (pah_cons (ph_op l_sub op_sub (ph_var (pv 6)) (ph_c pe_int)) pah_nil))) (pah_cons (ph_var (pv 7)) pah_nil))))))
      (pssh_cons (psh_set (i := 9) sc_law.nd rfl (Or.inl rfl) (ph_lst (pah_cons (ph_tup (pah_nil)) (pah_cons (ph_c pe_non) (pah_cons (ph_c pe_int) (pah_cons (ph_c pe_bl) (pah_cons (ph_c pe_str) (pah_cons (ph_lst (pah_nil)) (pah_cons (ph_dnew) (pah_cons (ph_op l_repT0 op_repT0 (ph_tup (pah_cons (ph_var (pv 4)) pah_nil)) (ph_var (pv 6))) (pah_cons (ph_op l_repT0 op_repT0 (ph_tup (pah_cons (ph_var (pv 4)) pah_nil)) (ph_op l_add op_addA (ph_var (pv 6)) (ph_c pe_int))) (pah_cons (ph_op l_repT0 op_repT0 (ph_tup (pah_cons (ph_var (pv 5)) pah_nil)) (ph_var (pv 7))) (pah_cons (ph_tup (pah_cons (ph_tup (pah_cons (ph_var (pv 5)) pah_nil)) pah_nil)) pah_nil)))))))))))))
      (pssh_cons (psj_for lg_name PassesOwn.never rfl (pih_range1 (by rfl) W.B.range (pah_cons (ph_c pe_int) pah_nil)) (pg_name (i := 10) sc_law.nd rfl (Or.inl rfl)) (pssh_cons (psh_set (i := 11) sc_law.nd rfl (Or.inl rfl) (ph_callO (ok_law_road W) (hr.mono (by decide)) (by rfl) W.m_law_road W.F_law_road.kp W.b_law_road (pah_cons (ph_var (pv 1)) (pah_cons (ph_var (pv 3)) pah_nil))))
        (pssh_one (psh_set (i := 9) sc_law.nd rfl (Or.inl rfl) (ph_op l_add op_addA (ph_var (pv 9)) (ph_lst (pah_cons (ph_var (pv 11)) (pah_cons (ph_callO (ok_law_otherwise W) (hr.mono (by decide)) (by rfl) W.m_law_otherwise W.F_law_otherwise.kp W.b_law_otherwise (pah_cons (ph_var (pv 1)) (pah_cons (ph_var (pv 3)) (pah_cons (ph_var (pv 11)) pah_nil)))) (pah_cons (ph_callO (ok_law_otherwise W) (hr.mono (by decide)) (by rfl) W.m_law_otherwise W.F_law_otherwise.kp W.b_law_otherwise (pah_cons (ph_var (pv 1)) (pah_cons (ph_var (pv 3)) (pah_cons (ph_var (pv 11)) pah_nil)))) pah_nil)))))))))
      (pssh_one (psj_for lg_name PassesOwn.never rfl (pih_seq (ph_var (pv 9))) (pg_name (i := 12) sc_law.nd rfl (Or.inl rfl)) (pssh_cons (psh_if (PW.pt (pwh_or (pth_not (pth_val (ph_call (ok_law_right W) gA (hr.mono (by decide)) (by rfl) W.m_law_right W.F_law_right.kp W.b_law_right (pah_cons (ph_var (pv 3)) (pah_cons (ph_var (pv 12)) pah_nil))))) (pwh_or1 (pth_not (pth_val (ph_call (ok_law_right W) gA (hr.mono (by decide)) (by rfl) W.m_law_right W.F_law_right.kp W.b_law_right (pah_cons (ph_var (pv 8)) (pah_cons (ph_var (pv 12)) pah_nil)))))))) (pssh_one (psh_ret (ph_c pe_bl))) (pssh_nil))
        (pssh_one (psh_if (pth_not (pth_val (ph_call (ok_law_right W) gA (hr.mono (by decide)) (by rfl) W.m_law_right W.F_law_right.kp W.b_law_right (pah_cons (ph_tup (pah_cons (ph_var (pv 4)) (pah_cons (ph_var (pv 5)) (pah_cons (ph_c pe_int) (pah_cons (ph_c pe_int) pah_nil))))) (pah_cons (ph_var (pv 12)) pah_nil))))) (pssh_one (psh_ret (ph_c pe_bl))) (pssh_nil))))))))))))
    (pssh_one (psh_ret (ph_c pe_bl)))), ?_⟩
  rintro ds A Q ⟨ns, rfl, hn, q⟩
  walk_at "go"
  refine ⟨ns, rfl, hn, fun k c A1 D1 q1 k0 c0 => ?_⟩
  have ne := D1.ne
  have lk := D1.lt1
  have lc := D1.lt2
  walk_at "go"
  refine ForQ.s11 2 3 4 5 6 7 8 9 10 11 12 (fun i _ _ _ _ _ _ _ _ _ _ _ A' => DeckW A' k c (0 + 2000 * (i : Nat))) ⟨_, _, _, _, _, _, _, _, _, _, _, rfl, D1.mono (by omega)⟩ (fun _ _ _ _ _ _ _ _ _ _ _ _ _ _ _ => trivial) ?_ ?_
  · rintro i d x2 x3 x4 x5 x6 x7 x8 x9 x10 x11 x12 A2 hi hd D2
    have hi' : i < (max 1 (min 4 ((ns.length : Nat) : Int))).toNat := hi
    have hi4 : i < 4 := by omega
    cases item_R hd
    walk_at "go"
    refine ⟨k, c, _, rfl, D2, by omega, by omega, fun s f m w A3 O D3 q3 => ?_⟩
    have o1 := O.s0
    have o2 := O.sf
    have o3 := O.f1
    have o4 := O.m0
    have o5 := O.m1
    have o6 := O.w1
    have o7 := O.w6
    have lk3 := D3.lt1
    have lc3 := D3.lt2
    walk_at "go"
    rename_i k4 A4 n4 e4 l4 k5 A5 n5 e5 l5
    refine ⟨⟨by simp, by omega, by omega, by show 1 ≤ 1000; decide⟩, ?_⟩
    walk_at "go"
    refine ⟨⟨by simp, by omega, by omega, by show 1 ≤ 1000; decide⟩, ?_⟩
    walk_at "go"
    refine ⟨⟨by simp, by omega, by omega, by show 1 ≤ 1000; decide⟩, ?_⟩
    walk_at "go"
    rename_i k6 A6 n6 e6 l6
    have h4 := n6.old (n5.old n4.get)
    have h5 := n6.old n5.get
    have h6 := n6.get
    have D6 : DeckW A6 k c (0 + 2000 * (i : Nat) + 8) := by walk_at "dk"
    have n4k : k4 ∉ [k, c] := ni2 (by omega) (by omega)
    have n5k : k5 ∉ [k, c] := ni2 (by omega) (by omega)
    have n6k : k6 ∉ [k, c] := ni2 (by omega) (by omega)
    clear n4 n5 n6
    obtain ⟨ts, hts, lts, ats⟩ : ∃ ts, A6[k6]? = some (.lst ts) ∧ ts.length = 11 ∧ ∀ d ∈ ts, Th [k, c] A6 d := by
      refine ⟨_, h6, rfl, fun d hd => ?_⟩
      simp only [List.mem_cons, List.not_mem_nil, or_false] at hd
      rcases hd with rfl | rfl | rfl | rfl | rfl | rfl | rfl | rfl | rfl | rfl | rfl
      · exact .road [] (by decide) fun _ h => nomatch h
      · exact .it _ .non
      · exact .it _ (.int 0 ⟨by omega, by omega⟩)
      · exact .it _ (.bl true)
      · exact .it _ (.str "" (by decide))
      · exact .lst [] (by decide) (fun _ h => nomatch h) n4k h4
      · exact .it _ (.dct n5k h5)
      · exact th_rep ⟨by omega, by omega⟩ (by omega)
      · exact th_rep ⟨by omega, by omega⟩ (by omega)
      · exact th_rep ⟨by omega, by omega⟩ (by omega)
      · exact .odd [] [] (.tup [.v (.int f)]) (by decide) (fun _ h => nomatch h) (fun _ h => nomatch h) (.tup f ⟨by omega, by omega⟩)
    clear h4 h5 h6 n4k n5k
    refine ForQ.s3 9 10 11 (fun j x9 x10 x11 A' => DeckW A' k c (0 + 2000 * (i : Nat) + 8 + 220 * (j : Nat)) ∧ ∃ jt ts, x9 = some (.ptr jt) ∧ jt ∉ [k, c] ∧ A'[jt]? = some (.lst ts) ∧ ts.length ≤ 11 + 3 * j ∧ ∀ d ∈ ts, Th [k, c] A' d) ⟨_, _, _, rfl, D6.mono (by omega), k6, ts, rfl, n6k, hts, by omega, ats⟩ (fun _ _ _ _ _ _ _ => trivial) ?_ ?_
    · rintro j d y9 y10 y11 A7 hj hdj ⟨D7, jt, ts, rfl, njt, hts, lts, ats⟩
      have hj' : j < 8 := hj
      walk_at "go"
      refine ⟨k, c, _, s, f, m, w, rfl, O, D7, by omega, by omega, fun L A8 lL okL D8 q8 => ?_⟩
      walk_at "go"
      refine ⟨k, c, _, s, f, m, w, L, rfl, O, D8, by omega, by omega, lL, okL, fun t1 A9 h1 D9 q9 => ?_⟩
      walk_at "go"
      refine ⟨k, c, _, s, f, m, w, L, rfl, O, D9, by omega, by omega, lL, okL, fun t2 A10 h2 D10 q10 => ?_⟩
      have hts10 := q10.old njt (q9.old njt (q8.old njt hts))
      have ats10 : ∀ d ∈ ts, Th [k, c] A10 d := fun d hd => (((ats d hd).kq q8).kq q9).kq q10
      have h1 := h1.kq q10
      have lk10 := D10.lt1
      have lc10 := D10.lt2
      walk_at "go"
      rename_i k11 A11 n11 e11 l11 k12 A12 n12 e12 l12
      have q12 : Kq [] A10 A12 := ((Kq.refl _ _).new n11).new n12
      refine .mk ⟨_, _, _, by walk_at "sq", (DeckW.kq' q12 D10).mono (by omega), k12, _, rfl, ni2 (by omega) (by omega), n12.get, by rw [List.length_append]; show ts.length + 3 ≤ _; omega, fun d hd => ?_⟩
      rcases List.mem_append.mp hd with h | h
      · exact (ats10 d h).kq q12.any
      · simp only [List.mem_cons, List.not_mem_nil, or_false] at h
        rcases h with rfl | rfl | rfl
        · exact .road L (by omega) fun i hi => by have := okL i hi; exact ⟨by omega, by omega⟩
        · exact h1.kq q12.any
        · exact h2.kq q12.any
    · rintro y9 y10 y11 A7 ⟨D7, jt, ts, rfl, njt, hts, lts, ats⟩
      have D7 : DeckW A7 k c (0 + 2000 * (i : Nat) + 8 + 220 * ((8 : Nat) : Int)) := D7
      have O2 : KdOk s f (max 0 (m - 1)) w := ⟨o1, o2, o3, by omega, by omega, o6, o7⟩
      have O3 : KdOk s f 0 1 := ⟨o1, o2, o3, by omega, by omega, by omega, by omega⟩
      walk_at "go"
      refine ForQ.s1 12 (fun j x12 A' => Kq [] A7 A') ⟨_, rfl, Kq.refl _ _⟩ (fun _ _ _ _ h => h.old0 hts) ?_ ?_
      · rintro j d y12 A8 hj hdj q8
        have hd := ats d (List.mem_of_getElem? (show ts[j]? = some d from hdj))
        have hd8 := hd.kq (X := [k, c]) q8.any
        walk_at "go"
        refine ⟨[k, c], s, f, m, w, d, rfl, O, hd8, fun A9 q9 => ?_⟩
        have hd9 := hd8.kq (X := [k, c]) q9.any
        walk_at "go"
        refine ⟨[k, c], s, f, max 0 (m - 1), w, d, rfl, O2, hd9, fun A10 q10 => ?_⟩
        have hd10 := hd9.kq (X := [k, c]) q10.any
        walk_at "go"
        refine ⟨[k, c], s, f, 0, 1, d, rfl, O3, hd10, fun A11 q11 => ?_⟩
        walk_at "go"
        exact .mk ⟨_, by walk_at "sq", ((q8.trans q9).trans q10).trans q11⟩
      · rintro y12 A8 q8
        exact .mk ⟨_, _, _, _, _, _, _, _, _, _, _, by walk_at "sq", (DeckW.kq' q8 D7).mono (by omega)⟩
  · rintro x2 x3 x4 x5 x6 x7 x8 x9 x10 x11 x12 A2 D2
    walk_at "go"
    exact q _
end Rp

namespace Rp
open PySem PySem.Spec PyProof.Rows L2
theorem all_mk {w : World} {K : PySem.W.Frag} {h : Heap} {mg : Str → Option Value} {fa : Addr} (X : K.In h) (G : h.Ns mainGlobals mg) (hfa : mg "law" = some (.ref fa))
    {f_is_whole f_is_of_kind f_law_deck f_law_draw f_law_kind f_law_road f_law_whole f_law_due f_law_otherwise f_law_right f_law : Addr} {od_is_whole an_is_whole od_is_of_kind an_is_of_kind od_law_deck an_law_deck od_law_draw an_law_draw od_law_kind an_law_kind od_law_road an_law_road od_law_whole an_law_whole od_law_due an_law_due od_law_otherwise an_law_otherwise od_law_right an_law_right od_law an_law : Option Addr} {sl_is_whole sl_is_of_kind sl_law_deck sl_law_draw sl_law_kind sl_law_road sl_law_whole sl_law_due sl_law_otherwise sl_law_right sl_law : Array (Option Value)} {kV_is_whole oc_is_whole dc_is_whole pm_is_whole cd_is_whole ct_is_whole kV_is_of_kind oc_is_of_kind dc_is_of_kind pm_is_of_kind cd_is_of_kind ct_is_of_kind kV_law_deck oc_law_deck dc_law_deck pm_law_deck cd_law_deck ct_law_deck kV_law_draw oc_law_draw dc_law_draw pm_law_draw cd_law_draw ct_law_draw kV_law_kind oc_law_kind dc_law_kind pm_law_kind cd_law_kind ct_law_kind kV_law_road oc_law_road dc_law_road pm_law_road cd_law_road ct_law_road kV_law_whole oc_law_whole dc_law_whole pm_law_whole cd_law_whole ct_law_whole kV_law_due oc_law_due dc_law_due pm_law_due cd_law_due ct_law_due kV_law_otherwise oc_law_otherwise dc_law_otherwise pm_law_otherwise cd_law_otherwise ct_law_otherwise kV_law_right oc_law_right dc_law_right pm_law_right cd_law_right ct_law_right kV_law oc_law dc_law pm_law cd_law ct_law : Value}
    (zint : PySem.W.nsIn K mainGlobals "int" = some none)
    (zlen : PySem.W.nsIn K mainGlobals "len" = some none)
    (zrange : PySem.W.nsIn K mainGlobals "range" = some none)
    (ztuple : PySem.W.nsIn K mainGlobals "tuple" = some none)
    (zlist : PySem.W.nsIn K mainGlobals "list" = some none)
    (zmax : PySem.W.nsIn K mainGlobals "max" = some none)
    (zmin : PySem.W.nsIn K mainGlobals "min" = some none)
    (zsum : PySem.W.nsIn K mainGlobals "sum" = some none)
    (zisinstance : PySem.W.nsIn K mainGlobals "isinstance" = some none)
    (zrepr : PySem.W.nsIn K mainGlobals "repr" = some none)
    (zstr : PySem.W.nsIn K mainGlobals "str" = some none)
    (zabs : PySem.W.nsIn K mainGlobals "abs" = some none)
    (zenumerate : PySem.W.nsIn K mainGlobals "enumerate" = some none)
    (zzip : PySem.W.nsIn K mainGlobals "zip" = some none)
    (zbool : PySem.W.nsIn K mainGlobals "bool" = some none)
    (zall : PySem.W.nsIn K mainGlobals "all" = some none)
    (zany : PySem.W.nsIn K mainGlobals "any" = some none)
    (zsorted : PySem.W.nsIn K mainGlobals "sorted" = some none)
    (zdict : PySem.W.nsIn K mainGlobals "dict" = some none)
    (zset : PySem.W.nsIn K mainGlobals "set" = some none)
    (g_is_whole : PySem.W.nsIn K mainGlobals "is_whole" = some (some (.ref f_is_whole)))
    (l_is_whole : K.lookup f_is_whole = some ⟨oc_is_whole, od_is_whole, .func (PySem.W.fnOf "is_whole" "is_whole" (defArgs s_is_whole) (defBody s_is_whole) (defScope s_is_whole) .none kV_is_whole dc_is_whole pm_is_whole an_is_whole cd_is_whole ct_is_whole), sl_is_whole⟩)
    (c_is_whole : PySem.W.codeIn K cd_is_whole "is_whole" = true)
    (k_is_whole : PySem.W.keepIn K (.ref f_is_whole) = true)
    (g_is_of_kind : PySem.W.nsIn K mainGlobals "is_of_kind" = some (some (.ref f_is_of_kind)))
    (l_is_of_kind : K.lookup f_is_of_kind = some ⟨oc_is_of_kind, od_is_of_kind, .func (PySem.W.fnOf "is_of_kind" "is_of_kind" (defArgs s_is_of_kind) (defBody s_is_of_kind) (defScope s_is_of_kind) .none kV_is_of_kind dc_is_of_kind pm_is_of_kind an_is_of_kind cd_is_of_kind ct_is_of_kind), sl_is_of_kind⟩)
    (c_is_of_kind : PySem.W.codeIn K cd_is_of_kind "is_of_kind" = true)
    (k_is_of_kind : PySem.W.keepIn K (.ref f_is_of_kind) = true)
    (g_law_deck : PySem.W.nsIn K mainGlobals "_law_deck" = some (some (.ref f_law_deck)))
    (l_law_deck : K.lookup f_law_deck = some ⟨oc_law_deck, od_law_deck, .func (PySem.W.fnOf "_law_deck" "_law_deck" (defArgs s_law_deck) (defBody s_law_deck) (defScope s_law_deck) .none kV_law_deck dc_law_deck pm_law_deck an_law_deck cd_law_deck ct_law_deck), sl_law_deck⟩)
    (c_law_deck : PySem.W.codeIn K cd_law_deck "_law_deck" = true)
    (k_law_deck : PySem.W.keepIn K (.ref f_law_deck) = true)
    (g_law_draw : PySem.W.nsIn K mainGlobals "_law_draw" = some (some (.ref f_law_draw)))
    (l_law_draw : K.lookup f_law_draw = some ⟨oc_law_draw, od_law_draw, .func (PySem.W.fnOf "_law_draw" "_law_draw" (defArgs s_law_draw) (defBody s_law_draw) (defScope s_law_draw) .none kV_law_draw dc_law_draw pm_law_draw an_law_draw cd_law_draw ct_law_draw), sl_law_draw⟩)
    (c_law_draw : PySem.W.codeIn K cd_law_draw "_law_draw" = true)
    (k_law_draw : PySem.W.keepIn K (.ref f_law_draw) = true)
    (g_law_kind : PySem.W.nsIn K mainGlobals "_law_kind" = some (some (.ref f_law_kind)))
    (l_law_kind : K.lookup f_law_kind = some ⟨oc_law_kind, od_law_kind, .func (PySem.W.fnOf "_law_kind" "_law_kind" (defArgs s_law_kind) (defBody s_law_kind) (defScope s_law_kind) .none kV_law_kind dc_law_kind pm_law_kind an_law_kind cd_law_kind ct_law_kind), sl_law_kind⟩)
    (c_law_kind : PySem.W.codeIn K cd_law_kind "_law_kind" = true)
    (k_law_kind : PySem.W.keepIn K (.ref f_law_kind) = true)
    (g_law_road : PySem.W.nsIn K mainGlobals "_law_road" = some (some (.ref f_law_road)))
    (l_law_road : K.lookup f_law_road = some ⟨oc_law_road, od_law_road, .func (PySem.W.fnOf "_law_road" "_law_road" (defArgs s_law_road) (defBody s_law_road) (defScope s_law_road) .none kV_law_road dc_law_road pm_law_road an_law_road cd_law_road ct_law_road), sl_law_road⟩)
    (c_law_road : PySem.W.codeIn K cd_law_road "_law_road" = true)
    (k_law_road : PySem.W.keepIn K (.ref f_law_road) = true)
    (g_law_whole : PySem.W.nsIn K mainGlobals "_law_whole" = some (some (.ref f_law_whole)))
    (l_law_whole : K.lookup f_law_whole = some ⟨oc_law_whole, od_law_whole, .func (PySem.W.fnOf "_law_whole" "_law_whole" (defArgs s_law_whole) (defBody s_law_whole) (defScope s_law_whole) .none kV_law_whole dc_law_whole pm_law_whole an_law_whole cd_law_whole ct_law_whole), sl_law_whole⟩)
    (c_law_whole : PySem.W.codeIn K cd_law_whole "_law_whole" = true)
    (k_law_whole : PySem.W.keepIn K (.ref f_law_whole) = true)
    (g_law_due : PySem.W.nsIn K mainGlobals "_law_due" = some (some (.ref f_law_due)))
    (l_law_due : K.lookup f_law_due = some ⟨oc_law_due, od_law_due, .func (PySem.W.fnOf "_law_due" "_law_due" (defArgs s_law_due) (defBody s_law_due) (defScope s_law_due) .none kV_law_due dc_law_due pm_law_due an_law_due cd_law_due ct_law_due), sl_law_due⟩)
    (c_law_due : PySem.W.codeIn K cd_law_due "_law_due" = true)
    (k_law_due : PySem.W.keepIn K (.ref f_law_due) = true)
    (g_law_otherwise : PySem.W.nsIn K mainGlobals "_law_otherwise" = some (some (.ref f_law_otherwise)))
    (l_law_otherwise : K.lookup f_law_otherwise = some ⟨oc_law_otherwise, od_law_otherwise, .func (PySem.W.fnOf "_law_otherwise" "_law_otherwise" (defArgs s_law_otherwise) (defBody s_law_otherwise) (defScope s_law_otherwise) .none kV_law_otherwise dc_law_otherwise pm_law_otherwise an_law_otherwise cd_law_otherwise ct_law_otherwise), sl_law_otherwise⟩)
    (c_law_otherwise : PySem.W.codeIn K cd_law_otherwise "_law_otherwise" = true)
    (k_law_otherwise : PySem.W.keepIn K (.ref f_law_otherwise) = true)
    (g_law_right : PySem.W.nsIn K mainGlobals "_law_right" = some (some (.ref f_law_right)))
    (l_law_right : K.lookup f_law_right = some ⟨oc_law_right, od_law_right, .func (PySem.W.fnOf "_law_right" "_law_right" (defArgs s_law_right) (defBody s_law_right) (defScope s_law_right) .none kV_law_right dc_law_right pm_law_right an_law_right cd_law_right ct_law_right), sl_law_right⟩)
    (c_law_right : PySem.W.codeIn K cd_law_right "_law_right" = true)
    (k_law_right : PySem.W.keepIn K (.ref f_law_right) = true)
    (g_law : PySem.W.nsIn K mainGlobals "law" = some (some (.ref f_law)))
    (l_law : K.lookup f_law = some ⟨oc_law, od_law, .func (PySem.W.fnOf "law" "law" (defArgs s_law) (defBody s_law) (defScope s_law) .none kV_law dc_law pm_law an_law cd_law ct_law), sl_law⟩)
    (c_law : PySem.W.codeIn K cd_law "law" = true)
    (k_law : PySem.W.keepIn K (.ref f_law) = true)
    : ∃ fd : FuncData, (∀ (s : Shared) (u : Value), BindsTo s fd ⟨[u], []⟩ [("_law_script", u)]) ∧ ∀ base : Heap, K.In base → base.Ns mainGlobals mg → FnG PySem.Challenge.pw_rateplan_k43_what_is_a_road_of_a_kind w K mg base CX0 8 fa fd ["_law_script"] (spOf K 1 spLawH) := by
  have e := hfa.symm.trans (PySem.W.mg_of X G g_law)
  cases e
  have nnint := PySem.W.mg_none_of X G zint
  have nnlen := PySem.W.mg_none_of X G zlen
  have nnrange := PySem.W.mg_none_of X G zrange
  have nntuple := PySem.W.mg_none_of X G ztuple
  have nnlist := PySem.W.mg_none_of X G zlist
  have nnmax := PySem.W.mg_none_of X G zmax
  have nnmin := PySem.W.mg_none_of X G zmin
  have nnsum := PySem.W.mg_none_of X G zsum
  have nnisinstance := PySem.W.mg_none_of X G zisinstance
  have nnrepr := PySem.W.mg_none_of X G zrepr
  have nnstr := PySem.W.mg_none_of X G zstr
  have nnabs := PySem.W.mg_none_of X G zabs
  have nnenumerate := PySem.W.mg_none_of X G zenumerate
  have nnzip := PySem.W.mg_none_of X G zzip
  have nnbool := PySem.W.mg_none_of X G zbool
  have nnall := PySem.W.mg_none_of X G zall
  have nnany := PySem.W.mg_none_of X G zany
  have nnsorted := PySem.W.mg_none_of X G zsorted
  have nndict := PySem.W.mg_none_of X G zdict
  have nnset := PySem.W.mg_none_of X G zset
  have F_is_whole := fun_mk (st := s_is_whole) l_is_whole c_is_whole k_is_whole
  have b_is_whole := F_is_whole.binds (ps := ["thing"]) fun _ _ _ _ _ _ us hl => match us, hl with | [_], _ => rfl
  have m_is_whole := PySem.W.mg_of X G g_is_whole
  have F_is_of_kind := fun_mk (st := s_is_of_kind) l_is_of_kind c_is_of_kind k_is_of_kind
  have b_is_of_kind := F_is_of_kind.binds (ps := ["kind", "thing"]) fun _ _ _ _ _ _ us hl => match us, hl with | [_, _], _ => rfl
  have m_is_of_kind := PySem.W.mg_of X G g_is_of_kind
  have F_law_deck := fun_mk (st := s_law_deck) l_law_deck c_law_deck k_law_deck
  have b_law_deck := F_law_deck.binds (ps := ["_law_script"]) fun _ _ _ _ _ _ us hl => match us, hl with | [_], _ => rfl
  have m_law_deck := PySem.W.mg_of X G g_law_deck
  have F_law_draw := fun_mk (st := s_law_draw) l_law_draw c_law_draw k_law_draw
  have b_law_draw := F_law_draw.binds (ps := ["_law_deck_here", "_law_top"]) fun _ _ _ _ _ _ us hl => match us, hl with | [_, _], _ => rfl
  have m_law_draw := PySem.W.mg_of X G g_law_draw
  have F_law_kind := fun_mk (st := s_law_kind) l_law_kind c_law_kind k_law_kind
  have b_law_kind := F_law_kind.binds (ps := ["_law_deck_here"]) fun _ _ _ _ _ _ us hl => match us, hl with | [_], _ => rfl
  have m_law_kind := PySem.W.mg_of X G g_law_kind
  have F_law_road := fun_mk (st := s_law_road) l_law_road c_law_road k_law_road
  have b_law_road := F_law_road.binds (ps := ["_law_deck_here", "_law_kind_here"]) fun _ _ _ _ _ _ us hl => match us, hl with | [_, _], _ => rfl
  have m_law_road := PySem.W.mg_of X G g_law_road
  have F_law_whole := fun_mk (st := s_law_whole) l_law_whole c_law_whole k_law_whole
  have b_law_whole := F_law_whole.binds (ps := ["_law_thing"]) fun _ _ _ _ _ _ us hl => match us, hl with | [_], _ => rfl
  have m_law_whole := PySem.W.mg_of X G g_law_whole
  have F_law_due := fun_mk (st := s_law_due) l_law_due c_law_due k_law_due
  have b_law_due := F_law_due.binds (ps := ["_law_kind_here", "_law_thing"]) fun _ _ _ _ _ _ us hl => match us, hl with | [_, _], _ => rfl
  have m_law_due := PySem.W.mg_of X G g_law_due
  have F_law_otherwise := fun_mk (st := s_law_otherwise) l_law_otherwise c_law_otherwise k_law_otherwise
  have b_law_otherwise := F_law_otherwise.binds (ps := ["_law_deck_here", "_law_kind_here", "_law_road_here"]) fun _ _ _ _ _ _ us hl => match us, hl with | [_, _, _], _ => rfl
  have m_law_otherwise := PySem.W.mg_of X G g_law_otherwise
  have F_law_right := fun_mk (st := s_law_right) l_law_right c_law_right k_law_right
  have b_law_right := F_law_right.binds (ps := ["_law_kind_here", "_law_thing"]) fun _ _ _ _ _ _ us hl => match us, hl with | [_, _], _ => rfl
  have m_law_right := PySem.W.mg_of X G g_law_right
  have F_law := fun_mk (st := s_law) l_law c_law k_law
  have b_law := F_law.binds (ps := ["_law_script"]) fun _ _ _ _ _ _ us hl => match us, hl with | [_], _ => rfl
  have m_law := PySem.W.mg_of X G g_law
  exact ⟨_, fun s v => .of_eq rfl, fun base _ _ => ok_law (⟨⟨nnint, nnlen, nnrange, nntuple, nnlist, nnmax, nnmin, nnsum, nnisinstance, nnrepr, nnstr, nnabs, nnenumerate, nnzip, nnbool, nnall, nnany, nnsorted, nndict, nnset⟩, _, _, F_is_whole, b_is_whole, m_is_whole, _, _, F_is_of_kind, b_is_of_kind, m_is_of_kind, _, _, F_law_deck, b_law_deck, m_law_deck, _, _, F_law_draw, b_law_draw, m_law_draw, _, _, F_law_kind, b_law_kind, m_law_kind, _, _, F_law_road, b_law_road, m_law_road, _, _, F_law_whole, b_law_whole, m_law_whole, _, _, F_law_due, b_law_due, m_law_due, _, _, F_law_otherwise, b_law_otherwise, m_law_otherwise, _, _, F_law_right, b_law_right, m_law_right, _, _, F_law, b_law, m_law⟩ : Wd K mg)⟩
end Rp
open PySem PySem.W PyProof.Rows
set_option maxRecDepth 100000 in
set_option maxHeartbeats 0 in
theorem PySem.Challenge.cw_rateplan_k43_what_is_a_road_of_a_kind_holds : PySem.Challenge.rw_rateplan_k43_what_is_a_road_of_a_kind.Holds := by
  w_on; o_law; k_head; (case hw => w_witness2)
  k_fill
  refine Rp.walkG (l := PySem.Challenge.rw_rateplan_k43_what_is_a_road_of_a_kind) (n := 63) (k := 8) (x := "_law_script") (CX := fun _ => L2.CX0) (sp := fun K => Rp.spOf K 1 Rp.spLawH) rfl (by decide) rfl ⟨rfl, by decide, by decide⟩ (fun w h Y => PySem.W.kIn_of Y) ?F (fun K H a ns hn on hS => Rp.lawH hn on hS) (fun _ _ _ _ _ z => z)
  case F =>
    intro w mg fa h KX G hmg
    refine' Rp.all_mk KX G hmg ?zint ?zlen ?zrange ?ztuple ?zlist ?zmax ?zmin ?zsum ?zisinstance ?zrepr ?zstr ?zabs ?zenumerate ?zzip ?zbool ?zall ?zany ?zsorted ?zdict ?zset ?g_is_whole ?l_is_whole ?c_is_whole ?k_is_whole ?g_is_of_kind ?l_is_of_kind ?c_is_of_kind ?k_is_of_kind ?g_law_deck ?l_law_deck ?c_law_deck ?k_law_deck ?g_law_draw ?l_law_draw ?c_law_draw ?k_law_draw ?g_law_kind ?l_law_kind ?c_law_kind ?k_law_kind ?g_law_road ?l_law_road ?c_law_road ?k_law_road ?g_law_whole ?l_law_whole ?c_law_whole ?k_law_whole ?g_law_due ?l_law_due ?c_law_due ?k_law_due ?g_law_otherwise ?l_law_otherwise ?c_law_otherwise ?k_law_otherwise ?g_law_right ?l_law_right ?c_law_right ?k_law_right ?g_law ?l_law ?c_law ?k_law
    (case zint => k_is)
    (case zlen => k_is)
    (case zrange => k_is)
    (case ztuple => k_is)
    (case zlist => k_is)
    (case zmax => k_is)
    (case zmin => k_is)
    (case zsum => k_is)
    (case zisinstance => k_is)
    (case zrepr => k_is)
    (case zstr => k_is)
    (case zabs => k_is)
    (case zenumerate => k_is)
    (case zzip => k_is)
    (case zbool => k_is)
    (case zall => k_is)
    (case zany => k_is)
    (case zsorted => k_is)
    (case zdict => k_is)
    (case zset => k_is)
    (case g_is_whole => k_is)
    (case l_is_whole => k_is)
    (case c_is_whole => k_is)
    (case k_is_whole => k_is)
    (case g_is_of_kind => k_is)
    (case l_is_of_kind => k_is)
    (case c_is_of_kind => k_is)
    (case k_is_of_kind => k_is)
    (case g_law_deck => k_is)
    (case l_law_deck => k_is)
    (case c_law_deck => k_is)
    (case k_law_deck => k_is)
    (case g_law_draw => k_is)
    (case l_law_draw => k_is)
    (case c_law_draw => k_is)
    (case k_law_draw => k_is)
    (case g_law_kind => k_is)
    (case l_law_kind => k_is)
    (case c_law_kind => k_is)
    (case k_law_kind => k_is)
    (case g_law_road => k_is)
    (case l_law_road => k_is)
    (case c_law_road => k_is)
    (case k_law_road => k_is)
    (case g_law_whole => k_is)
    (case l_law_whole => k_is)
    (case c_law_whole => k_is)
    (case k_law_whole => k_is)
    (case g_law_due => k_is)
    (case l_law_due => k_is)
    (case c_law_due => k_is)
    (case k_law_due => k_is)
    (case g_law_otherwise => k_is)
    (case l_law_otherwise => k_is)
    (case c_law_otherwise => k_is)
    (case k_law_otherwise => k_is)
    (case g_law_right => k_is)
    (case l_law_right => k_is)
    (case c_law_right => k_is)
    (case k_law_right => k_is)
    (case g_law => k_is)
    (case l_law => k_is)
    (case c_law => k_is)
    (case k_law => k_is)

