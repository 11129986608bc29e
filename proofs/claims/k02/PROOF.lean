import PyProof.Rows.All
import Wide.All
import OpenK.AllK
import Wide.FinOn
import HandS.Base
import HandS.Call
import HandS.List
import HandS.Comp
import HandS.Ends
import HandS.Dict
import HandS.Iter
import HandS.Text
import HandS.Words
import HandS.Wide
import HandS.ExcInit
import HandS.ExcField
import HandS.Evl
import HandS.WordsList
import PyProof.ReprLen
import HandS.Codes
import HandS.ReplaceLit
import HandS.ReplaceList
import HandS.ReplaceDef
import HandS.IsInst
import HandS.Rev
import HandS.MapObj
import HandS.StrMore
import HandS.WideBits
import HandS.Walk
import HandS.WordsExc
import KE.IntTextLaws
import HandS.Small
import HandS.RaiseMore
import HandS.TupMul
import PyProof.StrOps2
import HandS.ExcIs
import PySem.Challenge.RW_deedstore_k02_bounds_of_trees
set_option Elab.async false
set_option maxRecDepth 100000
namespace TK
open PySem L2
def top (i : Nat) : Stmt := PySem.Challenge.pw_deedstore_k02_bounds_of_trees.main.body.getD i (.Pass ⟨0, 0, 0, 0⟩)
abbrev sPen : Stmt := top 23
abbrev sDraw : Stmt := top 24
abbrev sPick : Stmt := top 25
/-! ### heaps -/
/-- all that was tracked but the object at d is as it was -/
def But (d : Addr) (H H' : Hp) : Prop := ∀ b o, b ≠ d → H b = some o → H' b = some o
theorem But.refl (d : Addr) (H : Hp) : But d H H := fun _ _ _ h => h
theorem But.trans {d : Addr} {H H1 H2 : Hp} (a : But d H H1) (b : But d H1 H2) : But d H H2 := fun c o n h => b c o n (a c o n h)
theorem But.of_same {d : Addr} {H H' : Hp} (a : Same H H') : But d H H' := fun c o _ h => a c o h
theorem But.put {d : Addr} {H : Hp} {o : HO} : But d H (upd H d o) := fun c u n h => by rw [upd_ne n]; exact h
theorem But.new {d p : Addr} {H : Hp} {o : HO} (hp : H p = none) : But d H (upd H p o) := fun c u n h => by rw [upd_ne (ne_of_none h hp)]; exact h
theorem same_new {H : Hp} {p : Addr} (h : H p = none) (o : HO) : Same H (upd H p o) := fun b u q => by rw [upd_ne (ne_of_none q h)]; exact q
/-! ### the pen -/
theorem nca : ¬ (Sum.inr ("cells" : Str) : Key) = Sum.inr ("at" : Str) := by decide +kernel
theorem ncr : ¬ (Sum.inr ("cells" : Str) : Key) = Sum.inr ("rest" : Str) := by decide +kernel
theorem nar : ¬ (Sum.inr ("at" : Str) : Key) = Sum.inr ("rest" : Str) := by decide +kernel
def penKV (c : Addr) (k r : Int) : List (Key × V) := [(Sum.inr ("cells" : Str), .ref c), (Sum.inr ("at" : Str), .int k), (Sum.inr ("rest" : Str), .int r)]
theorem pen_get_cells (c : Addr) (k r : Int) : valV (penKV c k r) (Sum.inr ("cells" : Str)) = some (.ref c) := valV_pos rfl
theorem pen_get_at (c : Addr) (k r : Int) : valV (penKV c k r) (Sum.inr ("at" : Str)) = some (.int k) := (valV_neg nca).trans (valV_pos rfl)
theorem pen_get_rest (c : Addr) (k r : Int) : valV (penKV c k r) (Sum.inr ("rest" : Str)) = some (.int r) := (valV_neg ncr).trans ((valV_neg nar).trans (valV_pos rfl))
theorem pen_put_at (c : Addr) (k r j : Int) : putK (penKV c k r) (Sum.inr ("at" : Str)) (.int j) = penKV c j r := by
  have e : (penKV c k r).any (fun kv => decide (kv.1 = (Sum.inr ("at" : Str) : Key))) = true := by
    rw [valV_any, pen_get_at]; rfl
  unfold putK
  rw [if_pos e]
  simp only [penKV, List.map_cons, List.map_nil, if_neg nca, if_pos, if_neg (Ne.symm nar)]
theorem pen_put_rest (c : Addr) (k r j : Int) : putK (penKV c k r) (Sum.inr ("rest" : Str)) (.int j) = penKV c k j := by
  have e : (penKV c k r).any (fun kv => decide (kv.1 = (Sum.inr ("rest" : Str) : Key))) = true := by
    rw [valV_any, pen_get_rest]; rfl
  unfold putK
  rw [if_pos e]
  simp only [penKV, List.map_cons, List.map_nil, if_neg ncr, if_pos, if_neg nar]
section
variable {H : Hp} {d c : Addr} {k r : Int}
theorem dg_cells (h : H d = some (.dK (penKV c k r))) : DGet H d (.str "cells") (some (.ref c)) := .inl ⟨_, Sum.inr ("cells" : Str), .inl h, rfl, (pen_get_cells c k r).symm⟩
theorem dg_at (h : H d = some (.dK (penKV c k r))) : DGet H d (.str "at") (some (.int k)) := .inl ⟨_, Sum.inr ("at" : Str), .inl h, rfl, (pen_get_at c k r).symm⟩
theorem dg_rest (h : H d = some (.dK (penKV c k r))) : DGet H d (.str "rest") (some (.int r)) := .inl ⟨_, Sum.inr ("rest" : Str), .inl h, rfl, (pen_get_rest c k r).symm⟩
theorem dp_at (h : H d = some (.dK (penKV c k r))) (j : Int) : DPut H d (.str "at") (.int j) (upd H d (.dK (penKV c j r))) :=
  .inl ⟨_, Sum.inr ("at" : Str), h, rfl, (by show 3 < sizeLine; decide), by rw [pen_put_at]⟩
theorem dp_rest (h : H d = some (.dK (penKV c k r))) (j : Int) : DPut H d (.str "rest") (.int j) (upd H d (.dK (penKV c k j))) :=
  .inl ⟨_, Sum.inr ("rest" : Str), h, rfl, (by show 3 < sizeLine; decide), by rw [pen_put_rest]⟩
end
/-- a pen stands at d that has drawn at most n cells -/
def PenAt (H : Hp) (d c : Addr) (n : Nat) : Prop := ∃ (cs : List Int) (k : Nat) (r : Int), H d = some (.dK (penKV c (k : Int) r)) ∧ H c = some (.lst (cs.map V.int)) ∧ k ≤ n ∧ 0 ≤ r
theorem PenAt.mono {H : Hp} {d c : Addr} {n m : Nat} (h : PenAt H d c n) (l : n ≤ m) : PenAt H d c m := by
  obtain ⟨cs, k, r, h1, h2, h3, h4⟩ := h
  exact ⟨cs, k, r, h1, h2, Nat.le_trans h3 l, h4⟩
theorem PenAt.ne {H : Hp} {d c : Addr} {kvs : List (Key × V)} {xs : List V} (h1 : H d = some (.dK kvs)) (h2 : H c = some (.lst xs)) : c ≠ d := ne_of h2 h1 (by intro q; cases q)
theorem PenAt.same {H H' : Hp} {d c : Addr} {n : Nat} (h : PenAt H d c n) (s : Same H H') : PenAt H' d c n := by
  obtain ⟨cs, k, r, h1, h2, h3, h4⟩ := h
  exact ⟨cs, k, r, s _ _ h1, s _ _ h2, h3, h4⟩
theorem PenAt.not_cells {H : Hp} {d c : Addr} {n : Nat} (h : PenAt H d c n) {p : Addr} (hp : H p = none) : c ≠ p := by
  obtain ⟨cs, k, r, h1, h2, _⟩ := h
  exact ne_of_none h2 hp
/-- another list is written -/
theorem PenAt.other {H : Hp} {d c : Addr} {n : Nat} (h : PenAt H d c n) {p : Addr} {o : HO} (h1 : p ≠ d) (h2 : p ≠ c) : PenAt (upd H p o) d c n := by
  obtain ⟨cs, k, r, g1, g2, g3⟩ := h
  exact ⟨cs, k, r, by rw [upd_ne h1.symm]; exact g1, by rw [upd_ne h2.symm]; exact g2, g3⟩
theorem PenAt.not_none {H : Hp} {d c : Addr} {n : Nat} (h : PenAt H d c n) {p : Addr} (hp : H p = none) : d ≠ p := by
  obtain ⟨cs, k, r, h1, _⟩ := h
  exact ne_of_none h1 hp
/-! ### promises -/
def spPen (K : PySem.W.Frag) : Sp := fun vs H Q _ => ∃ (a : Addr) (ns : List Int), vs = [.ref a] ∧ SqL K H a (ns.map V.int) ∧ ∀ (d c : Addr) (H' : Hp), Same H H' → H d = none → PenAt H' d c 0 → Q (.ref d) H'
def spDraw : Sp := fun vs H Q _ => ∃ (d c : Addr) (n : Nat) (m : Int), vs = [.ref d, .int m] ∧ PenAt H d c n ∧ n < 2 ^ 50 ∧ 0 < m ∧ m < 2 ^ 60 ∧
  ∀ (r : Int) (H' : Hp), 0 ≤ r → r < m → But d H H' → PenAt H' d c (n + 1) → Q (.int r) H'
end TK
namespace TK
open PySem L2
theorem bt_ValueError : bootBuiltins "ValueError" = some (.type "ValueError") := by decide +kernel
theorem bt_len : bootBuiltins "len" = some (.builtin "len") := by decide +kernel
theorem bt_abs : bootBuiltins "abs" = some (.builtin "abs") := by decide +kernel
theorem bt_min : bootBuiltins "min" = some (.builtin "min") := by decide +kernel
theorem bt_repr : bootBuiltins "repr" = some (.builtin "repr") := by decide +kernel
theorem bt_divmod : bootBuiltins "divmod" = some (.builtin "divmod") := by decide +kernel
theorem bt_isinstance : bootBuiltins "isinstance" = some (.builtin "isinstance") := by decide +kernel
theorem bt_int : bootBuiltins "int" = some (.type "int") := by decide +kernel
theorem bt_list : bootBuiltins "list" = some (.type "list") := by decide +kernel
theorem bt_str : bootBuiltins "str" = some (.type "str") := by decide +kernel
theorem bt_tuple : bootBuiltins "tuple" = some (.type "tuple") := by decide +kernel
theorem bt_bool : bootBuiltins "bool" = some (.type "bool") := by decide +kernel
theorem bt_range : bootBuiltins "range" = some (.type "range") := by decide +kernel
theorem bt_reversed : bootBuiltins "reversed" = some (.type "reversed") := by decide +kernel
abbrev sPrt : Stmt := top 26
abbrev sWT : Stmt := top 10
abbrev sLeaf : Stmt := top 11
abbrev sDig : Stmt := top 12
abbrev sWrit : Stmt := top 16
abbrev sLaw : Stmt := top 27
abbrev sRT : Stmt := top 13
abbrev sPlain : Stmt := top 3
abbrev sBeh : Stmt := top 17
abbrev sBeg : Stmt := top 18
abbrev sFit : Stmt := top 19
abbrev sWrA : Stmt := top 20
abbrev sTold : Stmt := top 21
abbrev sDue : Stmt := top 22
abbrev sNI : Stmt := inClass (top 1) 0
abbrev sRI : Stmt := inClass (top 14) 0
abbrev sRW : Stmt := inClass (top 14) 1
abbrev sRB : Stmt := inClass (top 14) 2
abbrev sRG : Stmt := inClass (top 14) 3
abbrev sRE : Stmt := inClass (top 14) 4
abbrev sRF : Stmt := inClass (top 14) 5
abbrev sRS : Stmt := inClass (top 14) 6
abbrev sRN : Stmt := inClass (top 14) 7
abbrev sRQ : Stmt := inClass (top 14) 8
inductive Nm where
  | Pen | Draw | Pick | Prt | WT | Leaf | Dig | Writ | Beh | Beg | Fit | WrA | Told | Due | NI | NoText | RT | Plain | RI | RW | RB | RG | RE | RF | RS | RN | RQ | Reader
/-- a def of the top -/
structure Df (K : PySem.W.Frag) (mg : Str → Option Value) (x : Str) (st : Stmt) (ps : List Str) (f : Addr) (fd : FuncData) : Prop where
  F : Fun K x x st f fd
  m : mg x = some (.ref f)
  b : Binds K fd ps []
/-- a method -/
structure MDf (K : PySem.W.Frag) (C : Addr) (x q : Str) (st : Stmt) (ps : List Str) (f : Addr) (fd : FuncData) : Prop where
  F : Fun K x q st f fd
  M : Meth K C x f
  b : Binds K fd ps []
theorem pe_gint {X : Cx} {x : Str} {i : Int} {pos : Pos} (hg : Gl X x) (h : ∃ t, X.mg x = some (.int i t)) (hd : (x == ("__debug__" : Str)) = false := by decide) : PE X (.Name x pos) (tC (.int i)) := by
  obtain ⟨t, ht⟩ := h
  exact pe_glob hg ht ⟨t, rfl⟩ hd
/-- the __init__ -/
structure Df0 (K : PySem.W.Frag) (x q : Str) (st : Stmt) (ps : List Str) (f : Addr) (fd : FuncData) : Prop where
  F : Fun K x q st f fd
  b : Binds K fd ps []
/-- what the top has written -/
structure Txt (K : PySem.W.Frag) (mg : Str → Option Value) (a : Nm → Addr) (d : Nm → FuncData) : Prop where
  n_len : mg "len" = none
  n_int : mg "int" = none
  n_abs : mg "abs" = none
  n_list : mg "list" = none
  n_str : mg "str" = none
  n_tuple : mg "tuple" = none
  n_bool : mg "bool" = none
  n_range : mg "range" = none
  n_min : mg "min" = none
  n_repr : mg "repr" = none
  n_divmod : mg "divmod" = none
  n_reversed : mg "reversed" = none
  n_isinstance : mg "isinstance" = none
  gMOST_PARTS : ∃ t, mg "MOST_PARTS" = some (.int 2000 t)
  gMOST_DEEP : ∃ t, mg "MOST_DEEP" = some (.int 30 t)
  gMOST_DIGITS : ∃ t, mg "MOST_DIGITS" = some (.int 100 t)
  gPIECE_DIGITS : ∃ t, mg "PIECE_DIGITS" = some (.int 64 t)
  gPIECE : ∃ t, mg "PIECE" = some (.int (10 ^ 64) t)
  Pen : Df K mg "_law_pen" sPen ["_law_script"] (a .Pen) (d .Pen)
  Draw : Df K mg "_law_draw" sDraw ["_law_pen_here", "_law_many"] (a .Draw) (d .Draw)
  Pick : Df K mg "_law_pick" sPick ["_law_pen_here", "_law_items"] (a .Pick) (d .Pick)
  Prt : Df K mg "_law_parts_text" sPrt ["_law_pen_here", "_law_many"] (a .Prt) (d .Prt)
  WT : Df K mg "write_tree" sWT ["tree"] (a .WT) (d .WT)
  Leaf : Df K mg "_leaf_text" sLeaf ["leaf"] (a .Leaf) (d .Leaf)
  Dig : Df K mg "_digits" sDig ["n"] (a .Dig) (d .Dig)
  Writ : Df K mg "_law_written" sWrit ["_law_tree"] (a .Writ) (d .Writ)
  Beh : Df K mg "_law_behind" sBeh ["_law_here", "_law_sign"] (a .Beh) (d .Beh)
  Beg : Df K mg "_law_begins" sBeg ["_law_here", "_law_sign"] (a .Beg) (d .Beg)
  Fit : Df K mg "_law_fits" sFit ["_law_here", "_law_sign"] (a .Fit) (d .Fit)
  WrA : Df K mg "_law_wrong_at" sWrA ["_law_text"] (a .WrA) (d .WrA)
  Told : Df K mg "_law_read_told" sTold ["_law_value"] (a .Told) (d .Told)
  Due : Df K mg "_law_read_due" sDue ["_law_value"] (a .Due) (d .Due)
  NI : Df0 K "__init__" "NoText.__init__" sNI ["self", "index"] (a .NI) (d .NI)
  RT : Df K mg "read_tree" sRT ["text"] (a .RT) (d .RT)
  Plain : Df K mg "is_plain" sPlain ["sign"] (a .Plain) (d .Plain)
  RI : Df0 K "__init__" "Reader.__init__" sRI ["self", "text", "most_parts", "most_deep"] (a .RI) (d .RI)
  RW : MDf K (a .Reader) "whole" "Reader.whole" sRW ["self"] (a .RW) (d .RW)
  RB : MDf K (a .Reader) "begin_part" "Reader.begin_part" sRB ["self"] (a .RB) (d .RB)
  RG : MDf K (a .Reader) "go_on" "Reader.go_on" sRG ["self"] (a .RG) (d .RG)
  RE : MDf K (a .Reader) "end_part" "Reader.end_part" sRE ["self", "part"] (a .RE) (d .RE)
  RF : MDf K (a .Reader) "following" "Reader.following" sRF ["self"] (a .RF) (d .RF)
  RS : MDf K (a .Reader) "spell" "Reader.spell" sRS ["self", "signs"] (a .RS) (d .RS)
  RN : MDf K (a .Reader) "read_number" "Reader.read_number" sRN ["self"] (a .RN) (d .RN)
  RQ : MDf K (a .Reader) "read_string" "Reader.read_string" sRQ ["self"] (a .RQ) (d .RQ)
  oex : OexC K (a .NoText)
  iNo : PySem.W.findIn K (.ref (a .NoText)) "__init__" = some (some (.ref (a .NI)))
  tNI : PySem.W.typeIn K (.ref (a .NI)) = some (.type "function")
  mgNo : mg "NoText" = some (.ref (a .NoText))
  noIx : PySem.W.findIn K (.ref (a .NoText)) "index" = some none
  exm : PySem.W.exmOne K (.ref (a .NoText)) (.ref (a .NoText)) = some true
  xf : XfC K (a .NoText)
  subVE : PySem.W.subIn K (.ref (a .NoText)) (.type "ValueError") = some true
  n_ValueError : mg "ValueError" = none
  cl : Cls K (a .Reader)
  mkR : Mk K (a .Reader) (a .RI)
  mgReader : mg "Reader" = some (.ref (a .Reader))
  aText : NoAttr K (a .Reader) "text"
  aMost_parts : NoAttr K (a .Reader) "most_parts"
  aMost_deep : NoAttr K (a .Reader) "most_deep"
  aAt : NoAttr K (a .Reader) "at"
  aMany : NoAttr K (a .Reader) "many"
  aUnclosed : NoAttr K (a .Reader) "unclosed"
  aResult : NoAttr K (a .Reader) "result"
def cutI (ns : List Int) : List Int := (ns.drop (HT.sIx ns.length 0 none)).take (HT.sIx ns.length ns.length (some 63) - HT.sIx ns.length 0 none)
theorem cutI_map (ns : List Int) : cutV (ns.map V.int) none (some 63) = (cutI ns).map V.int := by
  simp only [cutV, cutI, List.length_map, List.map_drop, List.map_take]
section
variable {P : Program} {w : World} {K : PySem.W.Frag} {mg : Str → Option Value} {base : Heap} {ad : Nm → Addr} {dd : Nm → FuncData}
theorem scPen : FnScope ["_law_script"] ["_law_script"] (defScope sPen) := ⟨rfl, rfl, rfl, by decide +kernel, rfl, by decide +kernel, by decide +kernel⟩
theorem ok_pen (T : Txt K mg ad dd) : FnOk P w K mg base CX0 1 (ad .Pen) (dd .Pen) ["_law_script"] (spPen K) := by
  refine T.Pen.F.ok scPen (fun vs H Q E h => ?_) (fun cdv A outer s H vs Q E hr h => ?_)
  · obtain ⟨a, ns, rfl, _⟩ := h
    rfl
  obtain ⟨a, ns, rfl, hS, k⟩ := h
  refine ⟨_, (pss_one (ps_ret (pe_disp (pps_cons pe_str (pe_callTy call_list_of (by rfl) T.n_list bt_list (pa_cons (pe_slice sl_list (pv 0) po_none (po_some pe_int)) pa_nil)) (pps_cons pe_str pe_int (pps_cons pe_str pe_int pps_nil))) rfl rfl (by simp) (by decide)))), ?_⟩
  intro d hd
  have s1 := same_new hd (.dK [])
  refine ⟨_, rfl, _, rfl, a, _, rfl, s1.seq hS, fun p hp => ?_⟩
  have s2 := same_new hp (.lst (cutV (ns.map V.int) none (some 63)))
  refine ⟨p, _, rfl, .inl (SqL.of upd_same), fun l hl => ?_⟩
  have s3 := same_new hl (.lst (cutV (ns.map V.int) none (some 63)))
  have ndp : d ≠ p := ne_of_none (H := upd H d (.dK [])) upd_same hp
  have hd2 := s2 _ _ (upd_same (H := H) (a := d) (o := .dK []))
  have ndl : d ≠ l := ne_of_none hd2 hl
  refine ⟨s3 _ _ hd2, [(Sum.inr ("cells" : Str), .ref l), (Sum.inr ("at" : Str), .int 0), (Sum.inr ("rest" : Str), .int 0)], rfl, (by show 3 ≤ 15; decide), ?_⟩
  have em : mergeK [] [(Sum.inr ("cells" : Str), V.ref l), (Sum.inr ("at" : Str), .int 0), (Sum.inr ("rest" : Str), .int 0)] = penKV l 0 0 := by
    unfold mergeK
    simp only [List.foldl_cons, List.foldl_nil, putK, List.any_nil, List.any_cons, List.nil_append, Bool.false_eq_true, if_false, Bool.or_false, decide_eq_true_eq, nca, ncr, nar, List.cons_append, Bool.or_eq_true, or_self]
    rfl
  rw [em]
  refine k d l _ (fun b o e => ?_) hd ⟨cutI ns, 0, 0, upd_same, ?_, Nat.le_refl _, Int.le_refl _⟩
  · rw [upd_ne (ne_of_none e hd)]
    exact s3 _ _ (s2 _ _ (s1 _ _ e))
  · rw [upd_ne ndl.symm, upd_same, cutI_map]
end
end TK
namespace TK
open PySem L2
theorem canLay_ints : ∀ l : List Int, PyData.canLayAll0 (l.map PyData.int) = true
  | [] => rfl
  | a :: r => by
    show (true && PyData.canLayAll0 (r.map PyData.int)) = true
    rw [canLay_ints r]; rfl
theorem depth_ints : ∀ l : List Int, PyData.depthAll (l.map PyData.int) = 0
  | [] => rfl
  | a :: r => by
    show max 0 (PyData.depthAll (r.map PyData.int)) = 0
    rw [depth_ints r]; rfl
theorem shaped_ints (l : List Int) : SeqAt.shaped (.list (l.map PyData.int)) = true := by
  have e1 : PyData.canLay0 (.list (l.map PyData.int)) = true := canLay_ints l
  have e2 : PyData.depth (.list (l.map PyData.int)) = 1 := by
    show PyData.depthAll (l.map PyData.int) + 1 = 1
    rw [depth_ints]
  unfold SeqAt.shaped
  rw [e1, e2]; rfl
theorem dp_ints (K : PySem.W.Frag) (H : Hp) : ∀ l : List Int, DpAll K H (l.map V.int) (l.map PyData.int)
  | [] => .nil
  | a :: r => .cons (.int a) (dp_ints K H r)
theorem eqv_nil : ∀ l : List Int, PyData.eqv (.list (l.map PyData.int)) (.list []) = l.isEmpty
  | [] => rfl
  | _ :: _ => rfl
section
variable {P : Program} {w : World} {K : PySem.W.Frag} {mg : Str → Option Value} {base : Heap} {ad : Nm → Addr} {dd : Nm → FuncData}
theorem scDraw : FnScope ["_law_pen_here", "_law_many", "_law_digit", "_law_at", "_law_cell", "_law_mixed"] ["_law_pen_here", "_law_many"] (defScope sDraw) := ⟨rfl, rfl, rfl, by decide +kernel, rfl, by decide +kernel, by decide +kernel⟩
theorem ok_draw (T : Txt K mg ad dd) : FnOk P w K mg base CX0 1 (ad .Draw) (dd .Draw) ["_law_pen_here", "_law_many"] spDraw := by
  refine T.Draw.F.ok scDraw (fun vs H Q E h => ?_) (fun cdv A outer s H vs Q E hr h => ?_)
  · obtain ⟨d, c, n, m, rfl, _⟩ := h
    rfl
  obtain ⟨d, c, n, m, rfl, ⟨cs, a, r, hd, hc, ha, h0⟩, hn, hm0, hm1, k⟩ := h
  have hu := hu_of hr
  have hU := hr.units
  have ncd : c ≠ d := PenAt.ne hd hc
  have hw : ∀ i : Int, CDivW i m := fun i => wide_div (b := 60) hm0 (by omega) (by decide) (by decide)
  refine ⟨_, (pss_cons (ps_if (pt_cmpR op_gt (pe_dget hu (pv 0) pe_str (fun _ _ => rfl)) pe_int (nomark _)) (pss_cons (ps_set (i := 2) scDraw.nd rfl (Or.inl rfl) (pe_op op_mod (pe_callTy call_int1 (by rfl) T.n_int bt_int (pa_cons (pe_dget hu (pv 0) pe_str (fun _ _ => rfl)) pa_nil)) (pv 1)))
      (pss_cons (ps_dput hu (pv 0) pe_str (pe_op op_fdivW (pe_dget hu (pv 0) pe_str (fun _ _ => rfl)) (pv 1)) rfl)
      (pss_one (ps_ret (pv 2))))) pss_nil)
      (pss_cons (ps_set (i := 3) scDraw.nd rfl (Or.inl rfl) (pe_dget hu (pv 0) pe_str (fun _ _ => rfl)))
      (pss_cons (ps_dput hu (pv 0) pe_str (pe_op op_add (pv 3) pe_int) rfl)
      (pss_cons (ps_set (i := 4) scDraw.nd rfl (Or.inl rfl) (pe_op op_add (pe_op op_mul pe_int (pv 3)) pe_int))
      (Evl.pss_cut (ps_if (pt_cmpR (op_neD hU) (pe_dget hu (pv 0) pe_str (fun _ _ => rfl)) (pe_lst pa_nil) (nomark _)) (pss_one (ps_set (i := 4) scDraw.nd rfl (Or.inl rfl) (pe_ix ix_list (pe_dget hu (pv 0) pe_str (fun _ _ => rfl)) (pe_op op_mod (pe_callTy call_int1 (by rfl) T.n_int bt_int (pa_cons (pv 3) pa_nil)) (pe_callB call_len_seq (by rfl) T.n_len bt_len (pa_cons (pe_dget hu (pv 0) pe_str (fun _ _ => rfl)) pa_nil))) (fun _ _ => rfl)))) pss_nil)
      (Evl.pss_cut (ps_if (PW.pt (pw_and (pt_cmpR op_lt (pv 3) (pe_callB call_len_seq (by rfl) T.n_len bt_len (pa_cons (pe_dget hu (pv 0) pe_str (fun _ _ => rfl)) pa_nil)) (nomark _)) (pw_and1 (pt_cmpR op_ge (pe_callB call_abs (by rfl) T.n_abs bt_abs (pa_cons (pv 4) pa_nil)) (pe_op op_pow pe_int pe_int) (nomark _))))) (pss_cons (ps_dput hu (pv 0) pe_str (pe_op op_fdivW (pe_op op_sub (pe_callB call_abs (by rfl) T.n_abs bt_abs (pa_cons (pv 4) pa_nil)) (pe_op op_pow pe_int pe_int)) (pv 1)) rfl)
      (pss_one (ps_ret (pe_op op_mod (pe_op op_sub (pe_callB call_abs (by rfl) T.n_abs bt_abs (pa_cons (pv 4) pa_nil)) (pe_op op_pow pe_int pe_int)) (pv 1))))) pss_nil)
      (pss_cons (ps_set (i := 5) scDraw.nd rfl (Or.inl rfl) (pe_op op_add (pe_op op_mul (pe_op op_mod (pe_callTy call_int1 (by rfl) T.n_int bt_int (pa_cons (pv 4) pa_nil)) pe_int) pe_int) (pe_op op_mul (pe_op op_mul pe_int (pv 3)) (pv 3))))
      (pss_cons (ps_set (i := 5) scDraw.nd rfl (Or.inl rfl) (pe_op op_mod (pe_callTy call_int1 (by rfl) T.n_int bt_int (pa_cons (pe_op op_add (pe_op op_add (pv 5) (pe_op op_mul pe_int (pv 3))) pe_int) pa_nil)) pe_int))
      (pss_cons (ps_set (i := 5) scDraw.nd rfl (Or.inl rfl) (pe_op op_mod (pe_callTy call_int1 (by rfl) T.n_int bt_int (pa_cons (pe_op op_add (pe_op op_add (pe_op op_add (pe_op op_mul (pv 5) (pv 5)) (pe_op op_mul pe_int (pv 5))) (pe_op op_mul pe_int (pv 3))) pe_int) pa_nil)) pe_int))
      (pss_one (ps_ret (pe_op op_mod (pe_callTy call_int1 (by rfl) T.n_int bt_int (pa_cons (pe_op op_fdivW (pe_op op_mod (pe_callTy call_int1 (by rfl) T.n_int bt_int (pa_cons (pe_op op_mul (pv 5) (pe_op op_add (pv 5) pe_int)) pa_nil)) pe_int) pe_int) pa_nil)) (pv 1))))))))))))), ?_⟩
  refine ⟨_, rfl, d, _, rfl, dg_rest hd, _, _, rfl, rfl, _, rfl, ?_⟩
  refine ite2 (fun _ => ?_) (fun _ => ?_)
  · refine ⟨_, rfl, d, _, rfl, dg_rest hd, .inl ⟨_, rfl, _, rfl, _, _, rfl, rfl, hm0, ?_⟩⟩
    refine ⟨_, rfl, d, _, rfl, dg_rest hd, _, rfl, _, _, rfl, rfl, hw _, _, rfl, d, _, rfl, dp_rest hd _, ?_⟩
    refine ⟨_, rfl, ?_⟩
    exact k _ _ (Int.emod_nonneg _ (by omega)) (Int.emod_lt_of_pos _ hm0) But.put ⟨cs, a, r / m, upd_same, by rw [upd_ne ncd]; exact hc, Nat.le_succ_of_le ha, Int.ediv_nonneg h0 (by omega)⟩
  refine ⟨_, rfl, d, _, rfl, dg_at hd, ?_⟩
  refine ⟨_, rfl, _, _, rfl, rfl, _, rfl, d, _, rfl, dp_at hd _, ?_⟩
  refine ⟨_, rfl, _, _, rfl, rfl, .inl ⟨by omega, by omega⟩, _, _, rfl, rfl, ?_⟩
  have hd1 : ∀ j : Int, (upd H d (.dK (penKV c j r))) d = some (.dK (penKV c j r)) := fun j => upd_same
  have hc1 : ∀ j : Int, (upd H d (.dK (penKV c j r))) c = some (.lst (cs.map V.int)) := fun j => by rw [upd_ne ncd]; exact hc
  refine ⟨fun σ' H' => ∃ cell : Int, σ' = [some (.ref d), some (.int m), none, some (.int a), some (.int cell), none] ∧ But d H H' ∧ H' d = some (.dK (penKV c ((a + 1 : Nat) : Int) r)) ∧ H' c = some (.lst (cs.map V.int)), ?_, ?_⟩
  · refine ⟨_, rfl, d, _, rfl, dg_cells (hd1 _), Nat.zero_le _, fun p hp => ?_⟩
    have s1 := same_new hp (.lst [])
    have hdp := s1 _ _ (hd1 ((a : Int) + 1))
    have hcp := s1 _ _ (hc1 ((a : Int) + 1))
    have bt : But d H (upd (upd H d (.dK (penKV c ((a : Int) + 1) r))) p (.lst [])) := But.trans But.put (But.of_same s1)
    refine ⟨.list (cs.map PyData.int), .list [], .lst (SqL.of hcp) (dp_ints _ _ _), .lst (SqL.of upd_same) .nil, shaped_ints _, rfl, _, rfl, ?_⟩
    rw [eqv_nil]
    refine ite2 (fun e => ?_) (fun _ => ⟨_, rfl, bt, hdp, hcp⟩)
    have hne : cs ≠ [] := by
      intro q
      rw [q] at e
      cases e
    have hl : 0 < cs.length := (by cases cs with | nil => exact absurd rfl hne | cons _ _ => exact Nat.succ_pos _)
    have hlV : (cs.map V.int).length = cs.length := List.length_map _
    have hpos : (0 : Int) < ((cs.map V.int).length : Nat) := by rw [hlV]; omega
    have h1 := Int.emod_nonneg (a : Int) (show ((cs.map V.int).length : Int) ≠ 0 by omega)
    have h2 := Int.emod_lt_of_pos (a : Int) hpos
    have hj : ((a : Int) % ((cs.map V.int).length : Int)).toNat < cs.length := by rw [hlV] at h1 h2 ⊢; omega
    refine ⟨_, rfl, d, _, rfl, dg_cells hdp, _, rfl, .inl ⟨_, rfl, _, rfl, d, _, rfl, dg_cells hdp, c, _, rfl, .inl (SqL.of hcp), _, _, rfl, rfl, hpos, c, _, _, _, rfl, rfl, SqL.of hcp, at_of (j := ((a : Int) % ((cs.map V.int).length : Int)).toNat) (by omega) (by rw [List.getElem?_map, List.getElem?_eq_getElem hj]; rfl), ?_⟩⟩
    exact ⟨_, rfl, bt, hdp, hcp⟩
  · rintro σ' H' ⟨cell, rfl, bt, hdp, hcp⟩
    refine ⟨fun σ2 H2 => σ2 = [some (.ref d), some (.int m), none, some (.int a), some (.int cell), none] ∧ H2 = H', ?_, ?_⟩
    · refine ⟨_, rfl, _, rfl, d, _, rfl, dg_cells hdp, c, _, rfl, .inl (SqL.of hcp), _, _, rfl, rfl, _, rfl, ?_⟩
      refine ite2 (fun _ => ?_) (fun _ => iteF ⟨rfl, rfl⟩)
      refine ⟨_, rfl, _, rfl, _, _, rfl, rfl, ⟨by decide, by decide, by decide⟩, _, _, rfl, rfl, _, rfl, ?_⟩
      refine ite2 (fun hg => ?_) (fun _ => ⟨rfl, rfl⟩)
      have hg' := of_decide_eq_true hg
      refine ⟨_, rfl, _, rfl, _, _, rfl, rfl, ⟨by decide, by decide, by decide⟩, _, _, rfl, rfl, _, rfl, _, _, rfl, rfl, hw _, _, rfl, d, _, rfl, dp_rest hdp _, ?_⟩
      refine ⟨_, rfl, _, rfl, _, _, rfl, rfl, ⟨by decide, by decide, by decide⟩, _, _, rfl, rfl, _, rfl, _, _, rfl, rfl, hm0, ?_⟩
      exact k _ _ (Int.emod_nonneg _ (by omega)) (Int.emod_lt_of_pos _ hm0) (But.trans bt But.put) ⟨cs, a + 1, _, upd_same, by rw [upd_ne ncd]; exact hcp, Nat.succ_le_succ ha, Int.ediv_nonneg (Int.sub_nonneg_of_le hg') (by omega)⟩
    · rintro σ2 H2 ⟨rfl, rfl⟩
      refine ⟨_, rfl, .inl ⟨_, rfl, _, _, rfl, rfl, (by omega), _, _, rfl, rfl, .inl ⟨by omega, by omega⟩, _, rfl, _, _, rfl, rfl, .inl ⟨by omega, by omega⟩, _, rfl, _, _, rfl, rfl, .inr ⟨by omega, by omega⟩, _, _, rfl, rfl, ?_⟩⟩
      refine ⟨_, rfl, _, rfl, _, _, rfl, rfl, .inl ⟨by omega, by omega⟩, _, _, rfl, rfl, _, _, rfl, rfl, .inl ⟨_, rfl, _, _, rfl, rfl, (by omega), ?_⟩⟩
      refine ⟨_, rfl, _, rfl, _, _, rfl, rfl, .inl ⟨by omega, by omega⟩, _, rfl, _, _, rfl, rfl, .inl ⟨by omega, by omega⟩, _, _, rfl, rfl, _, rfl, _, _, rfl, rfl, .inl ⟨by omega, by omega⟩, _, _, rfl, rfl, _, _, rfl, rfl, .inl ⟨_, rfl, _, _, rfl, rfl, (by omega), ?_⟩⟩
      refine ⟨_, rfl, _, rfl, _, _, rfl, rfl, _, _, rfl, rfl, .inl ⟨by omega, by omega⟩, .inl ⟨_, rfl, _, _, rfl, rfl, (by omega), _, _, rfl, rfl, wide_div (b := 60) (by decide) (by decide) (by decide) (by decide), .inl ⟨_, rfl, _, rfl, _, _, rfl, rfl, hm0, ?_⟩⟩⟩
      exact k _ _ (Int.emod_nonneg _ (by omega)) (Int.emod_lt_of_pos _ hm0) bt ⟨cs, a + 1, r, hdp, hcp, Nat.succ_le_succ ha, h0⟩
end
end TK
namespace TK
open PySem L2
abbrev S := SX.S
theorem S_len (l : List Nat) : (S l).length = l.length := by
  show l.toArray.size = l.length
  exact List.size_toArray
theorem S_app (a b : List Nat) : S a ++ S b = S (a ++ b) := by
  show (⟨a.toArray ++ b.toArray⟩ : Str) = ⟨(a ++ b).toArray⟩
  rw [List.append_toArray]
/-! ### trees -/
/-- a sign that may stand in a string of a tree -/
def plainC (c : Nat) : Bool := (decide (32 ≤ c) && decide (c ≤ 36)) || (decide (38 ≤ c) && decide (c ≤ 126))
mutual
/-- a tree with short leaves -/
def gd : PyData → Bool
  | .none => true
  | .bool _ => true
  | .int i => decide (i.natAbs < 10 ^ 100)
  | .str x => x.cps.toList.all plainC && decide (x.length ≤ 12)
  | .tuple ts => gds ts
  | .list _ => false
  | .dict _ => false
def gds : List PyData → Bool
  | [] => true
  | t :: ts => gd t && gds ts
end
mutual
/-- how deep -/
def dp : PyData → Nat
  | .tuple ts => dps ts + 1
  | .none => 1
  | .bool _ => 1
  | .int _ => 1
  | .str _ => 1
  | .list _ => 1
  | .dict _ => 1
def dps : List PyData → Nat
  | [] => 0
  | t :: ts => max (dp t) (dps ts)
end
mutual
/-- how many parts -/
def pts : PyData → Nat
  | .tuple ts => ptss ts + 1
  | .none => 1
  | .bool _ => 1
  | .int _ => 1
  | .str _ => 1
  | .list _ => 1
  | .dict _ => 1
def ptss : List PyData → Nat
  | [] => 0
  | t :: ts => pts t + ptss ts
end
theorem pts_pos : ∀ t : PyData, 0 < pts t
  | .tuple _ => Nat.succ_pos _
  | .none => Nat.one_pos
  | .bool _ => Nat.one_pos
  | .int _ => Nat.one_pos
  | .str _ => Nat.one_pos
  | .list _ => Nat.one_pos
  | .dict _ => Nat.one_pos
mutual
/-- the tree t stands at v: tuples, tracked -/
inductive Tr (H : Hp) : V → PyData → Prop
  | non : Tr H .non .none
  | bl (b : Bool) : Tr H (.bl b) (.bool b)
  | int (i : Int) : Tr H (.int i) (.int i)
  | str (x : Str) : Tr H (.str x) (.str x)
  | tup {a : Addr} {xs : List V} {ts : List PyData} : H a = some (.tup xs) → TrAll H xs ts → Tr H (.ref a) (.tuple ts)
inductive TrAll (H : Hp) : List V → List PyData → Prop
  | nil : TrAll H [] []
  | cons {v : V} {vs : List V} {t : PyData} {ts : List PyData} : Tr H v t → TrAll H vs ts → TrAll H (v :: vs) (t :: ts)
end
/-- the tuples stay -/
def Tups (H H' : Hp) : Prop := ∀ a xs, H a = some (.tup xs) → H' a = some (.tup xs)
theorem Tups.of_same {H H' : Hp} (s : Same H H') : Tups H H' := fun a _ h => s a _ h
theorem Tups.trans {H H1 H2 : Hp} (a : Tups H H1) (b : Tups H1 H2) : Tups H H2 := fun c xs h => b c xs (a c xs h)
theorem Tups.of_but {H H' : Hp} {d c : Addr} {n : Nat} (s : But d H H') (p : PenAt H d c n) : Tups H H' := fun a xs h => by
  obtain ⟨cs, k, r, h1, _⟩ := p
  exact s a _ (ne_of h h1 (by intro q; cases q)) h
mutual
theorem Tr.keep {H H' : Hp} (s : Tups H H') : ∀ (t : PyData) (v : V), Tr H v t → Tr H' v t
  | .none, _, h => by cases h; exact .non
  | .bool b, _, h => by cases h; exact .bl b
  | .int i, _, h => by cases h; exact .int i
  | .str x, _, h => by cases h; exact .str x
  | .tuple ts, _, h => by
    cases h with
    | tup h1 h2 => exact .tup (s _ _ h1) (TrAll.keep s ts _ h2)
  | .list _, _, h => by cases h
  | .dict _, _, h => by cases h
theorem TrAll.keep {H H' : Hp} (s : Tups H H') : ∀ (ts : List PyData) (vs : List V), TrAll H vs ts → TrAll H' vs ts
  | [], _, h => by cases h; exact .nil
  | t :: ts, _, h => by
    cases h with
    | cons h1 h2 => exact .cons (Tr.keep s t _ h1) (TrAll.keep s ts _ h2)
end
mutual
theorem Tr.dp_ {K : PySem.W.Frag} {H : Hp} : ∀ (t : PyData) (v : V), Tr H v t → Dp K H v t
  | .none, _, h => by cases h; exact .non
  | .bool b, _, h => by cases h; exact .bl b
  | .int i, _, h => by cases h; exact .int i
  | .str x, _, h => by cases h; exact .str x
  | .tuple ts, _, h => by
    cases h with
    | tup h1 h2 => exact .tup (SqT.of h1) (TrAll.dp_ ts _ h2)
  | .list _, _, h => by cases h
  | .dict _, _, h => by cases h
theorem TrAll.dp_ {K : PySem.W.Frag} {H : Hp} : ∀ (ts : List PyData) (vs : List V), TrAll H vs ts → DpAll K H vs ts
  | [], _, h => by cases h; exact .nil
  | t :: ts, _, h => by
    cases h with
    | cons h1 h2 => exact .cons (Tr.dp_ t _ h1) (TrAll.dp_ ts _ h2)
end
theorem TrAll.length {H : Hp} : ∀ {ts : List PyData} {vs : List V}, TrAll H vs ts → vs.length = ts.length
  | [], _, h => by cases h; rfl
  | t :: ts, _, h => by
    cases h with
    | cons h1 h2 => rw [List.length_cons, List.length_cons, TrAll.length h2]
theorem TrAll.snoc {H : Hp} {v : V} {t : PyData} (h : Tr H v t) : ∀ {ts : List PyData} {vs : List V}, TrAll H vs ts → TrAll H (vs ++ [v]) (ts ++ [t])
  | [], _, q => by cases q; exact .cons h .nil
  | u :: ts, _, q => by
    cases q with
    | cons h1 h2 => exact .cons h1 (TrAll.snoc h h2)
theorem gds_snoc : ∀ (ts : List PyData) (t : PyData), gds (ts ++ [t]) = (gds ts && gd t)
  | [], t => by
    show (gd t && true) = (true && gd t)
    rw [Bool.and_true, Bool.true_and]
  | u :: ts, t => by
    show (gd u && gds (ts ++ [t])) = (gd u && gds ts && gd t)
    rw [gds_snoc ts t, Bool.and_assoc]
theorem dps_snoc : ∀ (ts : List PyData) (t : PyData), dps (ts ++ [t]) = max (dps ts) (dp t)
  | [], t => by
    show max (dp t) 0 = max 0 (dp t)
    omega
  | u :: ts, t => by
    show max (dp u) (dps (ts ++ [t])) = max (max (dp u) (dps ts)) (dp t)
    rw [dps_snoc ts t]; omega
theorem ptss_snoc : ∀ (ts : List PyData) (t : PyData), ptss (ts ++ [t]) = ptss ts + pts t
  | [], t => by
    show pts t + 0 = 0 + pts t
    omega
  | u :: ts, t => by
    show pts u + ptss (ts ++ [t]) = pts u + ptss ts + pts t
    rw [ptss_snoc ts t]; omega
end TK
namespace TK
open PySem L2
theorem at_ofN {α : Type} {xs : List α} {z : Int} {j : Nat} {v : α} (e : z = (j : Int)) (h : xs[j]? = some v) : atI xs z = some v := by
  subst e
  exact atI_nat h
def spPick : Sp := fun vs H Q _ => ∃ (d c : Addr) (n : Nat) (x : V), vs = [.ref d, x] ∧ PenAt H d c n ∧ n < 2 ^ 50 ∧
  ((∃ (l : Addr) (xs : List V), x = .ref l ∧ H l = some (.lst xs) ∧ 0 < xs.length ∧ xs.length < 1000 ∧ ∀ (y : V) (H' : Hp), y ∈ xs → But d H H' → PenAt H' d c (n + 1) → Q y H') ∨
   (∃ z : List Nat, x = .str (S z) ∧ 0 < z.length ∧ z.length < 1000 ∧ ∀ (e : Nat) (H' : Hp), e ∈ z → But d H H' → PenAt H' d c (n + 1) → Q (.str (S [e])) H'))
section
variable {P : Program} {w : World} {K : PySem.W.Frag} {mg : Str → Option Value} {base : Heap} {ad : Nm → Addr} {dd : Nm → FuncData}
theorem scPick : FnScope ["_law_pen_here", "_law_items"] ["_law_pen_here", "_law_items"] (defScope sPick) := ⟨rfl, rfl, rfl, by decide +kernel, rfl, by decide +kernel, by decide +kernel⟩
theorem ok_pick (T : Txt K mg ad dd) : FnOk P w K mg base CX0 2 (ad .Pick) (dd .Pick) ["_law_pen_here", "_law_items"] spPick := by
  have GDraw := ok_draw (P := P) (w := w) (base := base) T
  refine T.Pick.F.ok scPick (fun vs H Q E h => ?_) (fun cdv A outer s H vs Q E hr h => ?_)
  · obtain ⟨d, c, n, x, rfl, _⟩ := h
    rfl
  obtain ⟨d, c, n, x, rfl, hp, hn, h⟩ := h
  refine ⟨_, (pss_one (ps_ret (pe_ix ix_seq (pv 1) (pe_call GDraw (hr.mono (by first | decide | omega)) rfl T.Draw.m T.Draw.F.kp T.Draw.b .nil pass0 (pa_cons (pv 0) (pa_cons (pe_callB call_len (by rfl) T.n_len bt_len (pa_cons (pv 1) pa_nil)) pa_nil))) (fun _ _ => rfl)))), ?_⟩
  rcases h with ⟨l, xs, rfl, hl, h0, h1, k⟩ | ⟨z, rfl, h0, h1, k⟩
  · refine ⟨_, rfl, _, rfl, _, rfl, _, _, rfl, .inl ⟨xs, SqL.of hl, rfl⟩, d, c, n, _, rfl, hp, hn, by omega, by omega, fun r H' r0 r1 bt hp' => ?_⟩
    have hj : r.toNat < xs.length := by omega
    obtain ⟨cs, a, b, hd, _⟩ := id hp
    have nl : l ≠ d := PenAt.ne hd hl
    exact .inl ⟨l, xs, r, xs[r.toNat], rfl, rfl, SqL.of (bt _ _ nl hl), at_of (j := r.toNat) (by omega) (List.getElem?_eq_getElem hj), k _ _ (List.getElem_mem hj) bt hp'⟩
  · have hz : sizeLine = 16777216 := sizeLine_eq
    refine ⟨_, rfl, _, rfl, _, rfl, _, _, rfl, ⟨by rw [S_len]; omega, rfl⟩, d, c, n, _, rfl, hp, hn, by rw [S_len]; omega, by rw [S_len]; omega, fun r H' r0 r1 bt hp' => ?_⟩
    rw [S_len] at r1
    have hj : r.toNat < z.length := by omega
    exact .inr (.inr ⟨S z, r, z[r.toNat], rfl, rfl, by rw [S_len]; omega, at_ofN (j := r.toNat) (show r = ((r.toNat : Nat) : Int) by omega) (List.getElem?_eq_getElem hj), k _ _ (List.getElem_mem hj) bt hp'⟩)
theorem join_one : ∀ zs : List Nat, TL.joinL [] (zs.map fun c => [c]) = zs
  | [] => rfl
  | [_] => rfl
  | a :: b :: r => by
    show [a] ++ [] ++ TL.joinL [] ((b :: r).map fun c => [c]) = _
    rw [join_one (b :: r)]
    rfl
theorem e0 : Str.ofString "" = S [] := by decide +kernel
theorem join_signs (zs : List Nat) : Txt.join (Str.ofString "") (zs.map fun c => S [c]) = S zs := by
  have e : (zs.map fun c => S [c]) = (zs.map fun c => [c]).map S := by rw [List.map_map]; rfl
  rw [e0, e, SX.join_S, join_one]
theorem sum_one : ∀ zs : List Nat, ((zs.map fun c => S [c]).map (·.length)).sum = zs.length
  | [] => rfl
  | a :: r => by
    show 1 + ((r.map fun c => S [c]).map (·.length)).sum = _
    rw [sum_one r, List.length_cons]; omega
end
end TK
namespace TK
open PySem L2
/-! ### depth -/
theorem dp_pos : ∀ t : PyData, 1 ≤ dp t
  | .tuple _ => Nat.succ_le_succ (Nat.zero_le _)
  | .none => Nat.le_refl _
  | .bool _ => Nat.le_refl _
  | .int _ => Nat.le_refl _
  | .str _ => Nat.le_refl _
  | .list _ => Nat.le_refl _
  | .dict _ => Nat.le_refl _
end TK
namespace TK
open PySem L2
/-! ### x is True -/
theorem op_is_b {X : Cx} : OpR X (compareOp .Is) (fun x y H Q => ∃ b, y = .bl b ∧ ((∃ a, x = .bl a ∧ Q (.bl (decide (a = b))) H) ∨ (((∃ i, x = .int i) ∨ (∃ z, x = .str z) ∨ x = .non) ∧ Q (.bl false) H))) := by
  intro pins s σ H x y v u Q I rx ry h
  obtain ⟨b, rfl, h⟩ := h
  obtain rfl : u = Value.bool b := ry
  rcases h with ⟨a, rfl, q⟩ | ⟨h, q⟩
  · obtain rfl : v = Value.bool a := rx
    by_cases e : a = b
    · subst e
      exact wpAny_is_self rfl ⟨.bl true, H, I, rfl, by simpa using q⟩
    · exact wpAny_is_other rfl (fun z => e (Value.bool.inj z)) ⟨.bl false, H, I, rfl, by simpa [e] using q⟩
  · rcases h with ⟨i, rfl⟩ | ⟨z, rfl⟩ | rfl
    · obtain ⟨t, rfl⟩ := rx
      exact wpAny_is_other rfl (fun z => nomatch z) ⟨.bl false, H, I, rfl, q⟩
    · obtain ⟨t, rfl⟩ := rx
      exact wpAny_is_other rfl (fun z => nomatch z) ⟨.bl false, H, I, rfl, q⟩
    · obtain rfl : v = Value.none := rx
      exact wpAny_is_other rfl (fun z => nomatch z) ⟨.bl false, H, I, rfl, q⟩
/-! ### a written text, then what wants a token -/
theorem pe_opC {X : Cx} {op : Operator} {r : R2} {x : Str} {j : Nat} {p pos : Pos} {f : Expr} {tf : TE} (ho : OpR X (binaryOp op) r) (hb : PET X f tf) : PE X (.BinOp (.Constant (.str x) j p) op f pos) (tOp r (tC (.str x)) tf) := by
  refine ⟨fun pins s σ H Q I h => ?_⟩
  refine PySem.wpAny_BinOp (PySem.Calls.Constant_str ?_)
  exact thn (hb pins _ σ H _ (by show 1 ≤ s.toks + 1; omega) (I.tok _) h) fun u s2 ⟨y, H2, I2, r2, q2⟩ => ho pins s2 σ H2 (.str x) y _ u Q I2 ⟨_, rfl⟩ r2 q2
theorem pst_set {X : Cx} {i : Nat} {x : Str} {e : Expr} {te : TE} {pos' pos : Pos} (hN : X.N.Nodup) (hi : X.N[i]? = some x) (hx : Loc X.env.scope x) (he : PET X e te)
    (hs : swapsWith e (some (.Name x pos')) pos.line X.env = pure false := by rfl) (hf : X.fn x = true ∨ X.env.scope.names.lookup x = some .local := by first | exact .inl rfl | exact .inr rfl) : PST X (.Assign [.Name x pos'] e pos) (tAsg te (gName i)) := by
  intro pins s σ H D h0 I h
  exact PySem.wpAny_Assign_Name (thn (he pins s σ H _ h0 I h) fun u s1 ⟨v, H1, I1, r1, q1⟩ => store_ok I1 hN hi hx r1 (fun s2 I2 => ⟨_, _, I2, q1⟩) hf) hs
/-! ### signs escaped -/
def esc : List Nat → List Nat
  | [] => []
  | c :: r => (if c = 92 then [92, 92] else if c = 34 then [92, 34] else [c]) ++ esc r
theorem repl1 (y : Nat) (z : List Nat) : ∀ l : List Nat, StrLaws.replL [y] z l = l.flatMap fun c => if c = y then z else [c]
  | [] => StrLaws.replL_nil
  | c :: r => by
    rw [List.flatMap_cons, ← repl1 y z r]
    by_cases h : c = y
    · rw [if_pos h, StrLaws.replL_hit (by simp) (by rw [h]; rfl)]; rfl
    · rw [if_neg h, StrLaws.replL_miss (fun q => h (by simpa using q))]; rfl
theorem esc_eq : ∀ l : List Nat, StrLaws.replL [34] [92, 34] (StrLaws.replL [92] [92, 92] l) = esc l
  | [] => by rw [StrLaws.replL_nil, StrLaws.replL_nil]; rfl
  | c :: r => by
    have ih := esc_eq r
    rw [repl1, repl1] at ih ⊢
    rw [List.flatMap_cons, List.flatMap_append, ih]
    show _ = (if c = 92 then [92, 92] else if c = 34 then [92, 34] else [c]) ++ esc r
    by_cases h : c = 92
    · rw [if_pos h, if_pos h]; rfl
    · rw [if_neg h, if_neg h]
      by_cases h2 : c = 34
      · rw [if_pos h2, h2]; rfl
      · rw [if_neg h2, List.flatMap_cons, List.flatMap_nil, if_neg h2]; rfl
theorem esc_str (x : Str) : PySem.Txt.replace (PySem.Txt.replace x (Str.ofString "\\") (Str.ofString "\\\\")) (Str.ofString "\"") (Str.ofString "\\\"") = S (esc x.cps.toList) := by
  apply TL.ext_tl
  show (PySem.Txt.replace _ _ _).cps.toList = (esc x.cps.toList)
  have e1 : (Str.ofString "\\").cps.toList = [92] := by decide +kernel
  have e2 : (Str.ofString "\\\\").cps.toList = [92, 92] := by decide +kernel
  have e3 : (Str.ofString "\"").cps.toList = [34] := by decide +kernel
  have e4 : (Str.ofString "\\\"").cps.toList = [92, 34] := by decide +kernel
  rw [StrLaws.replace_list (by decide +kernel), StrLaws.replace_list (by decide +kernel), e1, e2, e3, e4, esc_eq]
theorem esc_len : ∀ l : List Nat, (esc l).length ≤ 2 * l.length
  | [] => Nat.le_refl _
  | c :: r => by
    have ih := esc_len r
    show ((if c = 92 then [92, 92] else if c = 34 then [92, 34] else [c]) ++ esc r).length ≤ 2 * (r.length + 1)
    rw [List.length_append]
    have h : (if c = 92 then [92, 92] else if c = 34 then [92, 34] else [c]).length ≤ 2 := by
      split
      · exact Nat.le_refl _
      · split
        · exact Nat.le_refl _
        · exact Nat.le_succ _
    omega
end TK
namespace TK
open PySem L2
/-! ### the text of a tree -/
/-- the signs of a whole number -/
def intL (i : Int) : List Nat := (Str.ofString (toString i)).cps.toList
theorem intL_nat (n : Nat) : intL (n : Int) = TL.numL n := TL.tl_num n
theorem intL_neg (m : Nat) : intL (Int.negSucc m) = 45 :: TL.numL (m + 1) := by
  have e : toString (Int.negSucc m) = "-" ++ Nat.repr (m + 1) := rfl
  unfold intL
  rw [Str.ofString_eq_toList, e]
  show ("-" ++ Nat.repr (m + 1)).toList.map Char.toNat = _
  rw [String.toList_append, List.map_append, Nat.toList_repr]
  rfl
theorem intL_len {i : Int} (h : i.natAbs < 10 ^ 100) : (intL i).length ≤ 101 := by
  cases i with
  | ofNat n =>
    have e := TL.numL_len (n := n) (k := 100) (by decide) h
    rw [show Int.ofNat n = (n : Int) from rfl, intL_nat]
    omega
  | negSucc m =>
    have e := TL.numL_len (n := m + 1) (k := 100) (by decide) h
    rw [intL_neg, List.length_cons]
    omega
set_option exponentiation.threshold 2000 in
theorem bits_of {i : Int} (h : i.natAbs < 10 ^ 100) : i.natAbs.log2 < 1920 := by
  have e : (10 : Nat) ^ 100 ≤ 2 ^ 1920 := by decide
  exact PySem.Flt.log2_lt_of (by decide) (by omega)
mutual
def wr : PyData → List Nat
  | .none => [45]
  | .bool b => if b then [121, 101, 115] else [110, 111]
  | .int i => intL i
  | .str x => [34] ++ esc x.cps.toList ++ [34]
  | .tuple ts => [40] ++ TL.joinL [32] (wrs ts) ++ [41]
  | .list _ => []
  | .dict _ => []
def wrs : List PyData → List (List Nat)
  | [] => []
  | t :: ts => wr t :: wrs ts
end
theorem join_len1 : ∀ ls : List (List Nat), (TL.joinL [32] ls).length ≤ (ls.map (·.length)).sum + ls.length
  | [] => Nat.zero_le _
  | [p] => by
    show p.length ≤ (p.length + 0) + 1
    omega
  | p :: q :: r => by
    have ih := join_len1 (q :: r)
    show (p ++ ([32] ++ TL.joinL [32] (q :: r))).length ≤ (p.length + ((q :: r).map (·.length)).sum) + ((q :: r).length + 1)
    rw [List.length_append, List.length_append, List.length_singleton]
    omega
mutual
theorem wr_len : ∀ t : PyData, gd t = true → (wr t).length + 1 ≤ 112 * pts t
  | .none, _ => by decide
  | .bool b, _ => by cases b <;> decide
  | .int i, h => by
    have e := intL_len (of_decide_eq_true h)
    show (intL i).length + 1 ≤ 112 * 1
    omega
  | .str x, h => by
    have h' : (x.cps.toList.all plainC && decide (x.length ≤ 12)) = true := h
    rw [Bool.and_eq_true] at h'
    have h2 := of_decide_eq_true h'.2
    have h3 : x.length = x.cps.toList.length := Array.length_toList.symm
    have e := esc_len x.cps.toList
    show ([34] ++ esc x.cps.toList ++ [34]).length + 1 ≤ 112 * 1
    rw [List.length_append, List.length_append]
    show 1 + _ + 1 + 1 ≤ _
    omega
  | .tuple ts, h => by
    have e := wrs_len ts h
    have j := join_len1 (wrs ts)
    show ([40] ++ TL.joinL [32] (wrs ts) ++ [41]).length + 1 ≤ 112 * (ptss ts + 1)
    rw [List.length_append, List.length_append]
    show 1 + _ + 1 + 1 ≤ _
    omega
  | .list _, h => by cases h
  | .dict _, h => by cases h
theorem wrs_len : ∀ ts : List PyData, gds ts = true → ((wrs ts).map (·.length)).sum + (wrs ts).length ≤ 112 * ptss ts
  | [], _ => Nat.le_refl _
  | t :: ts, h => by
    have h' : (gd t && gds ts) = true := h
    rw [Bool.and_eq_true] at h'
    have e1 := wr_len t h'.1
    have e2 := wrs_len ts h'.2
    show ((wr t).length + ((wrs ts).map (·.length)).sum) + ((wrs ts).length + 1) ≤ 112 * (pts t + ptss ts)
    omega
end
theorem wrs_length : ∀ ts : List PyData, (wrs ts).length = ts.length
  | [] => rfl
  | _ :: ts => congrArg (· + 1) (wrs_length ts)
theorem wrs_snoc : ∀ (ts : List PyData) (t : PyData), wrs (ts ++ [t]) = wrs ts ++ [wr t]
  | [], _ => rfl
  | u :: ts, t => congrArg (wr u :: ·) (wrs_snoc ts t)
theorem TrAll.get {H : Hp} : ∀ {xs : List V} {ts : List PyData} {i : Nat} {x : V}, TrAll H xs ts → xs[i]? = some x → ∃ t, ts[i]? = some t ∧ Tr H x t
  | _, _, _, _, .nil, e => by simp at e
  | _, _, 0, _, .cons h _, e => by
    simp at e
    subst e
    exact ⟨_, rfl, h⟩
  | _, _, i + 1, x, .cons _ q, e => by
    obtain ⟨t, h1, h2⟩ := TrAll.get (i := i) (x := x) q (by simpa using e)
    exact ⟨t, by simpa using h1, h2⟩
theorem ts_get : ∀ {ts : List PyData} {i : Nat} {t : PyData}, gds ts = true → ts[i]? = some t → gd t = true ∧ dp t ≤ dps ts ∧ pts t ≤ ptss ts
  | [], _, _, _, e => by simp at e
  | u :: ts, 0, t, g, e => by
    simp at e
    subst e
    have h' : (gd u && gds ts) = true := g
    rw [Bool.and_eq_true] at h'
    exact ⟨h'.1, Nat.le_max_left _ _, Nat.le_add_right _ _⟩
  | u :: ts, i + 1, t, g, e => by
    have h' : (gd u && gds ts) = true := g
    rw [Bool.and_eq_true] at h'
    obtain ⟨h1, h2, h3⟩ := ts_get (i := i) (t := t) h'.2 (by simpa using e)
    exact ⟨h1, Nat.le_trans h2 (Nat.le_max_right _ _), Nat.le_trans h3 (Nat.le_add_left _ _)⟩
theorem take_next {α : Type} {l : List α} {i : Nat} {x : α} (h : l[i]? = some x) : l.take (i + 1) = l.take i ++ [x] := by
  rw [List.take_add_one, h]; rfl
theorem e32 : Str.ofString " " = S [32] := by decide +kernel
theorem e34 : Str.ofString "\"" = S [34] := by decide +kernel
theorem e40 : Str.ofString "(" = S [40] := by decide +kernel
theorem e41 : Str.ofString ")" = S [41] := by decide +kernel
theorem sum_S (ls : List (List Nat)) : ((ls.map S).map (·.length)).sum = (ls.map (·.length)).sum := by
  rw [List.map_map]
  exact congrArg List.sum (List.map_congr_left fun l _ => S_len l)
/-! ### kinds -/
def nm : PyData → String
  | .none => "NoneType"
  | .bool _ => "bool"
  | .int _ => "int"
  | .str _ => "str"
  | .tuple _ => "tuple"
  | .list _ => "list"
  | .dict _ => "dict"
theorem Tr.ty {K : PySem.W.Frag} {H : Hp} {t : PyData} {v : V} (h : Tr H v t) : TyX K H v (.type (nm t)) := by
  cases h with
  | non => exact .base .non
  | bl b => exact .base (.bl b)
  | int i => exact .base (.int i)
  | str x => exact .base (.str x)
  | tup h _ => exact .base (.tup h)
section
variable {K : PySem.W.Frag}
theorem k_tt : PySem.W.kitOne K (.type "tuple") (.type "tuple") = some true := kit_ty (by decide +kernel)
theorem k_nt : PySem.W.kitOne K (.type "NoneType") (.type "tuple") = some false := kit_ty (by decide +kernel)
theorem k_bt : PySem.W.kitOne K (.type "bool") (.type "tuple") = some false := kit_ty (by decide +kernel)
theorem k_it : PySem.W.kitOne K (.type "int") (.type "tuple") = some false := kit_ty (by decide +kernel)
theorem k_st : PySem.W.kitOne K (.type "str") (.type "tuple") = some false := kit_ty (by decide +kernel)
theorem k_ss : PySem.W.kitOne K (.type "str") (.type "str") = some true := kit_ty (by decide +kernel)
theorem k_ns : PySem.W.kitOne K (.type "NoneType") (.type "str") = some false := kit_ty (by decide +kernel)
theorem k_bs : PySem.W.kitOne K (.type "bool") (.type "str") = some false := kit_ty (by decide +kernel)
theorem k_is_ : PySem.W.kitOne K (.type "int") (.type "str") = some false := kit_ty (by decide +kernel)
theorem k_bb : PySem.W.kitOne K (.type "bool") (.type "bool") = some true := kit_ty (by decide +kernel)
theorem k_nb : PySem.W.kitOne K (.type "NoneType") (.type "bool") = some false := kit_ty (by decide +kernel)
theorem k_ib : PySem.W.kitOne K (.type "int") (.type "bool") = some false := kit_ty (by decide +kernel)
end
/-- n calls are allowed -/
def spWrit (n : Nat) : Sp := fun vs H Q _ => ∃ (x : V) (t : PyData), vs = [x] ∧ Tr H x t ∧ gd t = true ∧ dp t ≤ n ∧ pts t ≤ 2000 ∧ ∀ H' : Hp, Same H H' → Q (.str (S (wr t))) H'
section
variable {P : Program} {w : World} {K : PySem.W.Frag} {mg : Str → Option Value} {base : Heap} {ad : Nm → Addr} {dd : Nm → FuncData}
theorem scWrit : FnScope ["_law_tree", "_law_part"] ["_law_tree"] (defScope sWrit) := ⟨rfl, rfl, rfl, by decide +kernel, rfl, by decide +kernel, by decide +kernel⟩
theorem writ_step (T : Txt K mg ad dd) {N : Nat} (GWrit : FnOk P w K mg base CX0 N (ad .Writ) (dd .Writ) ["_law_tree"] (spWrit N)) : FnOk P w K mg base CX0 (N + 1) (ad .Writ) (dd .Writ) ["_law_tree"] (spWrit (N + 1)) := by
  refine T.Writ.F.ok scWrit (fun vs H Q E h => ?_) (fun cdv A outer s H vs Q E hr h => ?_)
  · obtain ⟨x, t, rfl, _⟩ := h
    rfl
  obtain ⟨x, t, rfl, tr, g, hd, hp, k⟩ := h
  have hz : sizeLine = 16777216 := sizeLine_eq
  refine ⟨_, (pss_cons (ps_if (pt_val (pe_callB call_isi (by rfl) T.n_isinstance bt_isinstance (pa_cons (pv 0) (pa_cons (pe_bltn (v := .ty "tuple") rfl T.n_tuple bt_tuple rfl) pa_nil))) (fun _ => rfl)) (pss_one (ps_ret (pe_op op_add_str (pe_op op_add_str pe_str (pe_join pe_str (pe_lc (own := [("_law_part", 1)]) (g := gName 1) (tt := tYes) rfl scWrit.nd (pi_tup (pv 0)) (blkOk_by (N := ["_law_tree", "_law_part"]) (sc := defScope sWrit) (by decide +kernel)) (fun _ _ _ _ _ => pg_name (i := 1) scWrit.nd rfl (Or.inl rfl)) (fun _ _ _ _ _ => pts_nil) (fun _ _ _ _ _ => (pe_call GWrit (hr.mono (by first | decide | omega)) rfl T.Writ.m T.Writ.F.kp T.Writ.b .nil pass0 (pa_cons (pv 1) pa_nil)))))) pe_str))) pss_nil)
      (pss_cons (ps_if (pt_val (pe_callB call_isi (by rfl) T.n_isinstance bt_isinstance (pa_cons (pv 0) (pa_cons (pe_bltn (v := .ty "str") rfl T.n_str bt_str rfl) pa_nil))) (fun _ => rfl)) (pss_one (ps_ret (pe_op op_add_str (pe_opC op_add_str (CwR.pet_replT (CwR.pet_replC (pv 0)))) pe_str))) pss_nil)
      (pss_cons (ps_if (PW.pt (pw_or (pt_val (pe_callB call_isi (by rfl) T.n_isinstance bt_isinstance (pa_cons (pv 0) (pa_cons (pe_bltn (v := .ty "bool") rfl T.n_bool bt_bool rfl) pa_nil))) (fun _ => rfl)) (pw_or1 (pt_cmpR op_isN (pv 0) pe_non (nomark _))))) (pss_one (ps_ret (pe_ifExp (pt_cmpR op_isN (pv 0) pe_non (nomark _)) pe_str (pe_ifExp (pt_truth (pv 0) (fun _ => rfl)) pe_str pe_str)))) pss_nil)
      (pss_one (ps_ret (pe_callTy call_str_int (by rfl) T.n_str bt_str (pa_cons (pv 0) pa_nil))))))), ?_⟩
  cases tr with
  | non =>
    refine ⟨_, rfl, _, _, _, _, false, rfl, .ty _, .base .non, k_nt, _, rfl, ?_⟩
    refine ⟨_, rfl, _, _, _, _, false, rfl, .ty _, .base .non, k_ns, _, rfl, ?_⟩
    refine ⟨_, rfl, _, _, _, _, false, rfl, .ty _, .base .non, k_nb, _, rfl, ?_⟩
    refine ⟨_, rfl, rfl, _, rfl, ?_⟩
    refine ⟨_, rfl, rfl, _, rfl, ?_⟩
    exact k H (Same.refl H)
  | bl b =>
    refine ⟨_, rfl, _, _, _, _, false, rfl, .ty _, .base (.bl b), k_bt, _, rfl, ?_⟩
    refine ⟨_, rfl, _, _, _, _, false, rfl, .ty _, .base (.bl b), k_bs, _, rfl, ?_⟩
    refine ⟨_, rfl, _, _, _, _, true, rfl, .ty _, .base (.bl b), k_bb, _, rfl, ?_⟩
    refine ⟨_, rfl, rfl, _, rfl, ?_⟩
    refine ⟨_, rfl, b, rfl, ?_⟩
    cases b with
    | true => exact k H (Same.refl H)
    | false => exact k H (Same.refl H)
  | int i =>
    refine ⟨_, rfl, _, _, _, _, false, rfl, .ty _, .base (.int i), k_it, _, rfl, ?_⟩
    refine ⟨_, rfl, _, _, _, _, false, rfl, .ty _, .base (.int i), k_is_, _, rfl, ?_⟩
    refine ⟨_, rfl, _, _, _, _, false, rfl, .ty _, .base (.int i), k_ib, _, rfl, ?_⟩
    refine ⟨_, rfl, rfl, _, rfl, ?_⟩
    exact ⟨_, rfl, i, rfl, bits_of (of_decide_eq_true g), k H (Same.refl H)⟩
  | str z =>
    refine ⟨_, rfl, _, _, _, _, false, rfl, .ty _, .base (.str z), k_st, _, rfl, ?_⟩
    refine ⟨_, rfl, _, _, _, _, true, rfl, .ty _, .base (.str z), k_ss, _, rfl, ?_⟩
    have g' : (z.cps.toList.all plainC && decide (z.length ≤ 12)) = true := g
    rw [Bool.and_eq_true] at g'
    have zl := of_decide_eq_true g'.2
    have l1 := TK.replace_len z (Str.ofString "\\") (Str.ofString "\\\\")
    have c2 : (Str.ofString "\\\\").length = 2 := by decide +kernel
    have c3 : (Str.ofString "\\\"").length = 2 := by decide +kernel
    have c1 : (Str.ofString "\"").length = 1 := by decide +kernel
    have l2 := esc_len z.cps.toList
    have l3 : z.length = z.cps.toList.length := Array.length_toList.symm
    rw [c2] at l1
    refine ⟨_, rfl, z, rfl, by rw [c2]; omega, _, rfl, by rw [c3]; omega, _, _, rfl, rfl, by rw [esc_str, e34, S_len, S_len]; show 1 + _ ≤ _; omega, _, _, rfl, rfl, ?_, ?_⟩
    · rw [esc_str, e34, S_app, S_len, S_len, List.length_append]
      show 1 + _ + 1 ≤ _
      omega
    · rw [esc_str, e34, S_app, S_app]
      exact k H (Same.refl H)
  | @tup a xs ts h1 h2 =>
    refine ⟨_, rfl, _, _, _, _, true, rfl, .ty _, .base (.tup h1), k_tt, _, rfl, ?_⟩
    have hd' : dps ts + 1 ≤ N + 1 := hd
    have hp' : ptss ts + 1 ≤ 2000 := hp
    have wl := wrs_len ts g
    have jl := join_len1 (wrs ts)
    have xl := h2.length
    have el := wrs_length ts
    refine ⟨⟨_, rfl⟩, _, rfl, a, rfl, ⟨xs, SqT.of h1⟩, fun D hD => lc_tup (xs := xs) (fun i H' => H' D = some (.lst ((wrs (ts.take i)).map fun l => .str (S l))) ∧ Same H H') ⟨upd_same, same_new hD _⟩ (fun i H' _ q => SqT.of (q.2 _ _ h1)) ?_ ?_⟩
    · rintro i x H' hx ⟨q1, q2⟩
      obtain ⟨t, ht, trx⟩ := TrAll.get h2 hx
      obtain ⟨m1, m2, m3⟩ := ts_get g ht
      have il : i < ts.length := (List.getElem?_eq_some_iff.mp ht).1
      refine ⟨rfl, _, rfl, x, t, rfl, Tr.keep (Tups.of_same q2) _ _ trx, m1, by omega, by omega, fun H3 q3 => ⟨_, q3 _ _ q1, ?_, ?_, ?_⟩⟩
      · rw [List.length_map, wrs_length, List.length_take]
        omega
      · rw [upd_same, take_next ht, wrs_snoc, List.map_append]; rfl
      · intro b o e
        have nb : b ≠ D := ne_of_none e hD
        rw [upd_ne nb]
        exact q3 _ _ (q2 _ _ e)
    · rintro H' ⟨q1, q2⟩
      rw [List.take_of_length_le (by omega)] at q1
      have ej : PySem.Txt.join (Str.ofString " ") ((wrs ts).map S) = S (TL.joinL [32] (wrs ts)) := by rw [e32, SX.join_S]
      have cs : (Str.ofString " ").length = 1 := by decide +kernel
      refine ⟨_, D, (wrs ts).map S, rfl, rfl, .inl (SqL.of (by rw [List.map_map]; exact q1)), ?_, ?_⟩
      · rw [sum_S, List.length_map, cs]
        omega
      · refine ⟨_, _, rfl, rfl, ?_, _, _, rfl, rfl, ?_, ?_⟩
        · rw [ej, e40, S_len, S_len]
          show 1 + _ ≤ _
          omega
        · rw [ej, e40, e41, S_app, S_len, S_len, List.length_append]
          show 1 + _ + 1 ≤ _
          omega
        · rw [ej, e40, e41, S_app, S_app]
          exact k H' q2
theorem writ_none : FnOk P w K mg base CX0 0 (ad .Writ) (dd .Writ) ["_law_tree"] (spWrit 0) := by
  have no : ∀ vs H Q E, ¬ spWrit 0 vs H Q E := fun vs H Q E h => by
    obtain ⟨x, t, _, _, _, h1, _⟩ := h
    have := dp_pos t
    omega
  exact ⟨fun vs H Q E h => absurd h (no vs H Q E), fun A outer s H args us vs Q E _ _ _ _ h => absurd h (no vs H Q E)⟩
theorem ok_writ (T : Txt K mg ad dd) : ∀ N : Nat, FnOk P w K mg base CX0 N (ad .Writ) (dd .Writ) ["_law_tree"] (spWrit N)
  | 0 => writ_none
  | N + 1 => writ_step T (ok_writ T N)
end
end TK
namespace TK
open PySem L2
/-! ### sep.join(reversed(a list)) -/
section
open PySem PySem.Spec PyProof.Rows
variable {prog : Program} {w : World} {A : Around} {E : Value → Shared → Prop} {s : Shared}
theorem join_rev {sep : Str} {tk0 : Tok} {ri li : Addr} {xs : Array Value} {zs : List Str} {Q : Value → Shared → Prop} (hn : A.handled = none)
    (h1 : s.heap.IsRevIter ri li ((xs.size : Int) - 1)) (h2 : s.heap.IsList li xs) (h3 : li ≠ ri) (h4 : xs.size ≤ sizeLine)
    (h5 : ∀ got : Array Value, ItemsOf (fun i v => xs[xs.size - 1 - i]? = some v) got xs.size → StrsAre got.toList zs)
    (h6 : (zs.map (·.length)).sum + zs.length * sep.length ≤ 16777216)
    (h7 : ∀ (g : Heap) (t1 : Tok) (k1 : Nat), (∀ b o, b ≠ ri → s.heap.get? b = some o → g.get? b = some o) → Q (.str (Txt.join sep zs) t1) { s with heap := g, toks := k1 }) :
    wpAny (model prog w) A (call (.builtin "str.join") [.str sep tk0, .ref ri]) Q E s := by
  have ck := F.slot_str_join.check
  refine wpAny_call (codeAny_call_builtin F.slot_str_join.plain F.entry_str_join
    (ck _ _ _ _ _ _ _ _ (typeIs_str _ _ _) (F.args_str_join_2 _ _) ?_))
  rw [join_tree_other]
  refine wpAny_bind (wpAny_typeOf h1.typeIs ?_)
  show wpAny _ A.in1 ((pyIter (.ref ri)).tryCatch _ >>= fun u => collect u >>= fun us => joinTail sep us) _ _ s
  refine wpAny_bind (wpAny_tryCatch (wpAny_pyIter_revIter h1 ?_))
  refine wpAny_bind (RT.collect_rev (A := A.in1) hn h1 h2 h3 h4 fun g k1 got kp hi => ?_)
  obtain ⟨l, hl, ht⟩ := strsAre_values (h5 got hi)
  subst ht
  rw [hl]
  have fine := joinOk_of h6
  unfold JoinOk at fine
  rw [Bool.not_eq_true'] at fine
  have gv : Gives (joinTail sep (strValues l)) (joinMade sep l) := by
    have g0 : Gives (joinTail sep (strValues l)) _ := gives_joinTail sep l fine
    rcases l with _ | ⟨p, _ | ⟨q, r⟩⟩
    · exact g0
    · exact g0
    · exact g0
  exact gv prog w A (wants Q E) _ (post_join l ⟨joinFit_length fine, fun t1 k => h7 g t1 k kp⟩)
end
def tJoinRev (K : PySem.W.Frag) (to te : TE) : TE := fun σ H Q => to σ H fun x H1 => (∃ a, x = .str a) ∧ te σ H1 fun v H2 => ∃ (a : Str) (p : Addr) (zs : List Str), x = .str a ∧ v = .ref p ∧ SqL K H2 p (zs.map V.str) ∧ (zs.map (·.length)).sum + zs.length * a.length ≤ 16777216 ∧ Q (.str (PySem.Txt.join a zs.reverse)) H2
section
open PySem PySem.Spec PyProof.Rows
variable {X : Cx}
theorem pe_joinRev {o e : Expr} {to te : TE} {apos p2 pos pos2 : Pos} (hc : X.calm = true) (ho : PE X o to) (hg : Gl X "reversed") (hm : X.mg "reversed" = none) (he : PE X e te)
    (hs : starEach [e] X.env = (false, eval e X.env) :: starEach [] X.env := by rfl)
    (hs2 : starEach [.Call (.Name "reversed" p2) [e] [] pos2] X.env = [(false, eval (.Call (.Name "reversed" p2) [e] [] pos2) X.env)] := by rfl)
    (hb : attributeBase o "join" X.env (eval o X.env) = eval o X.env := by rfl) (hl : (apos.endLine == pos.line) = true := by rfl) :
    PE X (.Call (.Attribute o "join" apos) [.Call (.Name "reversed" p2) [e] [] pos2] [] pos) (tJoinRev X.K to te) := by
  refine ⟨fun pins s σ H Q I h => ?_⟩
  refine PySem.Call_method1 hb hs2 hl (thn (ho.run pins s σ H _ I h) fun v s1 ⟨x, H1, I1, r1, q1⟩ => ?_)
  obtain ⟨⟨a, rfl⟩, q1⟩ := q1
  obtain ⟨t, rfl⟩ := _root_.id r1
  refine ⟨"str", _, F.plainAttrs_str, F.slot_str_join, F.type_str_join, typeIs_str _ _ _, (fun _ e => nomatch e), Calls.callWith_builtin rfl (Calls.evalArgs_plain (Calls.spliced_cons ?_))⟩
  refine Call_ (ld_blt I1 hg hm PyProof.Rows.boot_reversed (PyProof.Rows.callWith_type1 (args_cons (thn (he.run pins s1 σ H1 _ I1 q1) fun u s2 ⟨y, H2, I2, r2, q2⟩ => args_nil ?_) hs) hs rfl))
  obtain ⟨a', p, zs, ea, ev, hq, hz, q⟩ := q2
  subst ev
  obtain rfl : u = Value.ref p := r2
  cases ea
  obtain ⟨its, rv, p', hzl⟩ := I2.list hq
  have hil := p'.isList
  obtain ⟨ol, hol, _⟩ := _root_.id hil
  have hpl := Heap.lt_size hol
  refine call_reversed_list hil ?_
  have k0 : ∀ b o, s2.heap.get? b = some o → (s2.heap.push (revObj p ((its.toArray.size : Int) - 1))).get? b = some o := fun b o e => Heap.get?_push_of_some _ e
  have I3 : Inv X pins σ H2 { s2 with heap := s2.heap.push (revObj p ((its.toArray.size : Int) - 1)) } := I2.kept (t' := s2.toks) k0
  obtain ⟨f0, f1, f2, f3, f4, f5⟩ := I2.fpOk (H' := H2) (b := s2.heap.objs.size) (Nat.le_refl _) (I2.hok.fresh (Nat.le_refl _))
  refine Calls.spliced_nil ?_
  refine join_rev (s := { s2 with heap := s2.heap.push (revObj p ((its.toArray.size : Int) - 1)) }) (I2.ok.hd hc) ⟨_, Heap.get?_push_size _ rfl, rfl, rfl⟩ (hil.push _) (Nat.ne_of_lt hpl) (by rw [List.size_toArray, ← rv.length]; exact hzl)
    (zs := zs.reverse) (fun got hi => strs_of_vals (by rw [List.map_reverse]; exact RT.vals_rev rv hi)) (by rw [List.map_reverse, List.sum_reverse, List.length_reverse]; exact hz) fun g t1 k1 kp => ?_
  exact ⟨.str _, H2, I3.turned (t' := k1) (fun b o hb e => kp b o hb e) f0 f1 f3 f4 f5, ⟨t1, rfl⟩, q⟩
end
end TK
namespace TK
open PySem L2
/-! ### digits in pieces -/
/-- just k digits -/
def dig : Nat → Nat → List Nat
  | 0, _ => []
  | k + 1, m => dig k (m / 10) ++ [48 + m % 10]
theorem dig_len : ∀ k m : Nat, (dig k m).length = k
  | 0, _ => rfl
  | k + 1, m => by
    show (dig k (m / 10) ++ [48 + m % 10]).length = k + 1
    rw [List.length_append, dig_len k (m / 10)]; rfl
theorem numL_split : ∀ k n : Nat, 10 ^ k ≤ n → TL.numL n = TL.numL (n / 10 ^ k) ++ dig k (n % 10 ^ k)
  | 0, n, _ => by
    show TL.numL n = TL.numL (n / 1) ++ []
    rw [Nat.div_one, List.append_nil]
  | k + 1, n, h => by
    have e : 10 ^ (k + 1) = 10 * 10 ^ k := by rw [Nat.pow_succ, Nat.mul_comm]
    have p : 0 < 10 ^ k := Nat.pow_pos (by decide)
    have h10 : 10 ≤ n := by
      rw [e] at h
      omega
    have hk : 10 ^ k ≤ n / 10 := by
      rw [e] at h
      omega
    have ih := numL_split k (n / 10) hk
    rw [TL.numL_step h10, ih, e, Nat.div_div_eq_div_mul]
    show _ = _ ++ (dig k (n % (10 * 10 ^ k) / 10) ++ [48 + n % (10 * 10 ^ k) % 10])
    rw [Nat.mod_mul_right_div_self, Nat.mod_mul_right_mod, List.append_assoc]
theorem dig_zero : ∀ k : Nat, dig k 0 = List.replicate k 48
  | 0 => rfl
  | k + 1 => by
    show dig k (0 / 10) ++ [48 + 0 % 10] = _
    rw [Nat.zero_div, dig_zero k, List.replicate_succ']
theorem dig_pad : ∀ k m : Nat, m < 10 ^ (k + 1) → dig (k + 1) m = List.replicate (k + 1 - (TL.numL m).length) 48 ++ TL.numL m
  | 0, m, h => by
    have h' : m < 10 := by simpa using h
    rw [TL.numL_lt h']
    show [] ++ [48 + m % 10] = List.replicate 0 48 ++ [48 + m]
    rw [Nat.mod_eq_of_lt h']; rfl
  | k + 1, m, h => by
    by_cases h' : m < 10
    · rw [TL.numL_lt h']
      show dig (k + 1) (m / 10) ++ [48 + m % 10] = List.replicate (k + 1) 48 ++ [48 + m]
      rw [Nat.mod_eq_of_lt h', Nat.div_eq_of_lt h', dig_zero]
    · have e : 10 ^ (k + 1 + 1) = 10 * 10 ^ (k + 1) := by rw [Nat.pow_succ, Nat.mul_comm]
      have ih := dig_pad k (m / 10) (by rw [e] at h; omega)
      rw [TL.numL_step (by omega)]
      show dig (k + 1) (m / 10) ++ [48 + m % 10] = _
      rw [ih, List.length_append, List.length_singleton, List.append_assoc]
      congr 1
      congr 1
      omega
theorem zfill_dig {m : Nat} (h : m < 10 ^ 64) : PySem.Txt.zfill (Str.ofString (toString ((m : Nat) : Int))) 64 = S (dig 64 m) := by
  have e : Str.ofString (toString ((m : Nat) : Int)) = S (TL.numL m) := SX.num_S m
  have hl := TL.numL_len (n := m) (k := 64) (by decide) h
  rw [e, dig_pad 63 m h]
  unfold PySem.Txt.zfill
  rw [S_len]
  by_cases c : (64 : Int) ≤ ((TL.numL m).length : Nat)
  · rw [if_pos c, show 63 + 1 - (TL.numL m).length = 0 by omega]; rfl
  · rw [if_neg c]
    cases q : TL.numL m with
    | nil => exact absurd q (TL.numL_ne m)
    | cons a r =>
      have ha := TL.numL_digits m a (by rw [q]; exact List.mem_cons_self)
      have z : PySem.zfilled (S (a :: r)) ((64 : Int).toNat - (a :: r).length) = PySem.Builtin.Str.padded (S (a :: r)) ((64 : Int).toNat - (a :: r).length) 0 48 := by
        unfold PySem.zfilled
        have e0 : (S (a :: r)).cps[0]? = some a := by simp
        rw [e0]
        split
        · rename_i w
          cases w
          omega
        · rename_i w
          cases w
          omega
        · rfl
      rw [z]
      unfold PySem.Builtin.Str.padded
      apply TL.ext_tl
      show (Array.replicate _ 48 ++ (a :: r).toArray ++ Array.replicate 0 48).toList = (List.replicate _ 48 ++ a :: r)
      simp
end TK
namespace TK
open PySem L2
theorem intL_split (i : Int) : intL i = (if i < 0 then [45] else []) ++ TL.numL i.natAbs := by
  cases i with
  | ofNat n =>
    show intL ((n : Nat) : Int) = (if ((n : Nat) : Int) < 0 then [45] else []) ++ TL.numL n
    rw [if_neg (by omega)]
    exact intL_nat n
  | negSucc m =>
    rw [if_pos (by omega)]
    exact intL_neg m
def spDig : Sp := fun vs H Q _ => ∃ i : Int, vs = [.int i] ∧ i.natAbs < 10 ^ 100 ∧ ∀ H' : Hp, Same H H' → Q (.str (S (intL i))) H'
theorem join_nil : ∀ ls : List (List Nat), TL.joinL [] ls = ls.flatten
  | [] => rfl
  | [p] => by
    show p = p ++ []
    rw [List.append_nil]
  | p :: q :: r => by
    show p ++ ([] ++ TL.joinL [] (q :: r)) = p ++ (q :: r).flatten
    rw [join_nil (q :: r), List.nil_append]
theorem join_flat (ls : List (List Nat)) : PySem.Txt.join (Str.ofString "") (ls.map S) = S ls.flatten := by
  rw [e0, SX.join_S, join_nil]
section
variable {P : Program} {w : World} {K : PySem.W.Frag} {mg : Str → Option Value} {base : Heap} {ad : Nm → Addr} {dd : Nm → FuncData}
theorem scDig : FnScope ["n", "pieces", "rest", "low"] ["n"] (defScope sDig) := ⟨rfl, rfl, rfl, by decide +kernel, rfl, by decide +kernel, by decide +kernel⟩
theorem ok_dig (T : Txt K mg ad dd) : FnOk P w K mg base CX0 1 (ad .Dig) (dd .Dig) ["n"] spDig := by
  refine T.Dig.F.ok scDig (fun vs H Q E h => ?_) (fun cdv A outer s H vs Q E hr h => ?_)
  · obtain ⟨i, rfl, _⟩ := h
    rfl
  obtain ⟨i, rfl, hi, k⟩ := h
  have hz : sizeLine = 16777216 := sizeLine_eq
  have nl := TL.numL_len (n := i.natAbs) (k := 100) (by decide) hi
  refine ⟨_, (pss_cons (ps_set (i := 1) scDig.nd rfl (Or.inl rfl) (pe_lst pa_nil))
      (pss_cons (ps_set (i := 2) scDig.nd rfl (Or.inl rfl) (pe_callB call_abs (by rfl) T.n_abs bt_abs (pa_cons (pv 0) pa_nil)))
      (pss_cons (ps_while PassesOwn.never (pt_cmpR op_ge (pv 2) (pe_gint rfl T.gPIECE) (nomark _)) (pss_cons (ps_asg (pe_callB call_divmodW (by rfl) T.n_divmod bt_divmod (pa_cons (pv 2) (pa_cons (pe_gint rfl T.gPIECE) pa_nil))) (pg_tup rfl (pgs_cons (pg_name (i := 2) scDig.nd rfl (Or.inl rfl)) (pgs_cons (pg_name (i := 3) scDig.nd rfl (Or.inl rfl)) pgs_nil))))
      (pss_one (ps_expr (pe_bm PySem.F.plainAttrs_list PySem.F.slot_list_append PySem.F.type_list_append mt_append (pv 1) (pa_cons (pe_bm PySem.F.plainAttrs_str PySem.F.slot_str_zfill PySem.F.type_str_zfill mt_zfill (pe_callTy call_str_int (by rfl) T.n_str bt_str (pa_cons (pv 3) pa_nil)) (pa_cons (pe_gint rfl T.gPIECE_DIGITS) pa_nil)) pa_nil))))))
      (pss_cons (ps_expr (pe_bm PySem.F.plainAttrs_list PySem.F.slot_list_append PySem.F.type_list_append mt_append (pv 1) (pa_cons (pe_callTy call_str_int (by rfl) T.n_str bt_str (pa_cons (pv 2) pa_nil)) pa_nil)))
      (pss_cons (ps_if (pt_cmpR op_lt (pv 0) pe_int (nomark _)) (pss_one (ps_expr (pe_bm PySem.F.plainAttrs_list PySem.F.slot_list_append PySem.F.type_list_append mt_append (pv 1) (pa_cons pe_str pa_nil)))) pss_nil)
      (pss_one (ps_ret (pe_joinRev rfl pe_str rfl T.n_reversed (pv 1))))))))), ?_⟩
  refine ⟨Nat.zero_le _, fun p hp => ?_⟩
  have s1 := same_new hp (.lst [])
  refine ⟨_, rfl, i, rfl, ?_⟩
  have ea : (if i < 0 then -i else i) = ((i.natAbs : Nat) : Int) := by
    split <;> omega
  rw [ea]
  refine while_by (fun σ H' => ∃ (r : Nat) (zs : List (List Nat)) (o : Option V), σ = [some (.int i), some (.ref p), some (.int (r : Int)), o] ∧ H' p = some (.lst (zs.map fun l => .str (S l))) ∧ TL.numL i.natAbs = TL.numL r ++ zs.reverse.flatten ∧ zs.length ≤ zs.reverse.flatten.length ∧ r < 10 ^ 100 ∧ ∀ b o, b ≠ p → (upd H p (.lst [])) b = some o → H' b = some o)
    (fun (σ : L2.St) (_ : Hp) => match σ[2]? with | some (some (V.int r)) => r.toNat | _ => 0) ⟨i.natAbs, [], none, rfl, upd_same, by simp, Nat.le_refl _, hi, fun _ _ _ e => e⟩ ?_ (fun σ H1 Q1 Q2 m ⟨v, e, a, b, x1, x2, c, x3, q⟩ => ⟨v, e, a, b, x1, x2, c, x3, m _ _ q⟩)
  rintro σ H1 ⟨r, zs, o, rfl, h1, h2, h3, h4, h5⟩
  have fl : (zs.reverse.flatten).length ≤ 100 := by
    have := congrArg List.length h2
    rw [List.length_append] at this
    omega
  refine ⟨_, rfl, _, _, rfl, rfl, _, rfl, ?_⟩
  refine ite2 (fun c => ?_) (fun c => ?_)
  · have c' : ((10 : Int) ^ 64) ≤ (r : Int) := of_decide_eq_true c
    have c2 : 10 ^ 64 ≤ r := by omega
    refine ⟨_, rfl, _, _, rfl, ⟨by decide, PyProof.noPylong_of_log2 (by decide)⟩, fun q hq => ?_⟩
    have sq := same_new hq (.tup [.int ((r : Int) / 10 ^ 64), .int ((r : Int) % 10 ^ 64)])
    have npq : p ≠ q := ne_of_none h1 hq
    refine ⟨q, _, rfl, SqT.of upd_same, rfl, _, _, rfl, _, _, rfl, rfl, ?_⟩
    have em : (r : Int) % 10 ^ 64 = ((r % 10 ^ 64 : Nat) : Int) := by omega
    have ed : (r : Int) / 10 ^ 64 = ((r / 10 ^ 64 : Nat) : Int) := by omega
    have lm : r % 10 ^ 64 < 10 ^ 64 := Nat.mod_lt _ (by decide)
    refine ⟨_, rfl, .inl ⟨rfl, _, .inl (.inl (sq _ _ h1))⟩, ⟨_, rfl, _, rfl, by rw [em]; exact bits_of (Nat.lt_trans (show ((r % 10 ^ 64 : Nat) : Int).natAbs < 10 ^ 64 by omega) (by decide)), rfl, _, _, rfl, rfl, by decide +kernel, p, _, _, rfl, rfl, sq _ _ h1, by rw [List.length_map]; omega, ?_⟩⟩
    refine ⟨⟨r / 10 ^ 64, zs ++ [dig 64 (r % 10 ^ 64)], some (.int ((r : Int) % 10 ^ 64)), by rw [← ed]; rfl, ?_, ?_, ?_, ?_, ?_⟩, ?_⟩
    · rw [upd_same, em, zfill_dig lm, List.map_append]; rfl
    · rw [h2, numL_split 64 r c2, List.reverse_append, List.append_assoc]; rfl
    · rw [List.reverse_append, List.length_append]
      show zs.length + 1 ≤ (dig 64 (r % 10 ^ 64) ++ zs.reverse.flatten).length
      rw [List.length_append, dig_len]
      omega
    · omega
    · intro b o1 hb e
      have nb : b ≠ p := hb
      rw [upd_ne nb]
      exact sq _ _ (h5 b o1 hb e)
    · show ((r : Int) / 10 ^ 64).toNat < (r : Int).toNat
      omega
  · refine ⟨_, rfl, .inl ⟨rfl, _, .inl (.inl h1)⟩, ⟨_, rfl, _, rfl, bits_of (by omega), p, _, _, rfl, rfl, h1, by rw [List.length_map]; omega, ?_⟩⟩
    have er : Str.ofString (toString ((r : Nat) : Int)) = S (TL.numL r) := SX.num_S r
    rw [er]
    have L1 : (upd H1 p (.lst (zs.map (fun l => V.str (S l)) ++ [.str (S (TL.numL r))]))) p = some (.lst ((zs ++ [TL.numL r]).map fun l => V.str (S l))) := by
      rw [upd_same, List.map_append]; rfl
    have S1 : Same H (upd H1 p (.lst (zs.map (fun l => V.str (S l)) ++ [.str (S (TL.numL r))]))) := fun b o1 e => by
      have nb : b ≠ p := ne_of_none e hp
      rw [upd_ne nb]
      exact h5 b o1 nb (s1 _ _ e)
    generalize upd H1 p (.lst (zs.map (fun l => V.str (S l)) ++ [.str (S (TL.numL r))])) = H2 at L1 S1
    have nr := congrArg List.length h2
    rw [List.length_append] at nr
    refine ⟨_, rfl, _, _, rfl, rfl, _, rfl, ?_⟩
    have fin : ∀ (ls : List (List Nat)) (H3 : Hp), H3 p = some (.lst (ls.map fun l => V.str (S l))) → Same H H3 → ls.length ≤ 102 → (ls.map (·.length)).sum ≤ 102 → ls.reverse.flatten = intL i →
        ∀ (o1 o2 : Option V), tRet (tJoinRev K (tC (.str (Str.ofString ""))) (tVar 1)) { nx := fun _ H' => Q .non H', rt := Q } [some (.int i), some (.ref p), o1, o2] H3 := by
      intro ls H3 g1 g2 g3 g4 g5 o1 o2
      have c0 : (Str.ofString "").length = 0 := by decide +kernel
      refine ⟨⟨_, rfl⟩, _, rfl, _, p, ls.map S, rfl, rfl, SqL.of (by rw [List.map_map]; exact g1), ?_, ?_⟩
      · rw [sum_S, List.length_map, c0]
        omega
      · rw [← List.map_reverse, join_flat, g5]
        exact k H3 g2
    have sumz : ∀ ls : List (List Nat), (ls.map (·.length)).sum = ls.reverse.flatten.length := by
      intro ls
      rw [List.length_flatten, List.map_reverse, List.sum_reverse]
    refine ite2 (fun c3 => ?_) (fun c3 => ?_)
    · have c4 : i < 0 := of_decide_eq_true c3
      refine ⟨_, rfl, .inl ⟨rfl, _, .inl (.inl L1)⟩, p, _, _, rfl, rfl, L1, by rw [List.length_map, List.length_append]; show zs.length + 1 < _; omega, ?_⟩
      have e45 : Str.ofString "-" = S [45] := by decide +kernel
      refine fin ((zs ++ [TL.numL r]) ++ [[45]]) _ (by rw [upd_same, e45, List.map_append (l₂ := [[45]])]; rfl) (fun b o1 e => by rw [upd_ne (ne_of_none e hp)]; exact S1 _ _ e) ?_ ?_ ?_ _ _
      · rw [List.length_append, List.length_append]
        show zs.length + 1 + 1 ≤ 102
        omega
      · rw [sumz, List.reverse_append, List.reverse_append]
        show ([45] ++ (TL.numL r ++ zs.reverse.flatten)).length ≤ 102
        rw [List.length_append, List.length_append]
        show 1 + _ ≤ _
        omega
      · rw [intL_split, if_pos c4, h2, List.reverse_append, List.reverse_append]; rfl
    · have c4 : ¬ i < 0 := of_decide_eq_false (Bool.eq_false_iff.mpr c3)
      refine fin (zs ++ [TL.numL r]) _ L1 S1 ?_ ?_ ?_ _ _
      · rw [List.length_append]
        show zs.length + 1 ≤ 102
        omega
      · rw [sumz, List.reverse_append]
        show (TL.numL r ++ zs.reverse.flatten).length ≤ 102
        rw [List.length_append]
        omega
      · rw [intL_split, if_neg c4, h2, List.reverse_append]; rfl
end
end TK
namespace TK
open PySem L2
theorem fun_okT {P : Program} {w : World} {K : PySem.W.Frag} {mg : Str → Option Value} {base : Heap} {x qual : Str} {st : Stmt} {f : Addr} {fd : FuncData} {N ps : List Str} {k : Nat} {sp : Sp} (F : Fun K x qual st f fd) (S : FnScope N ps (defScope st))
    (hnc : ∀ y ∈ (defScope st).names, y.2 ≠ .cell) (hps : 1 ≤ ps.length) (len : ∀ vs H Q E, sp vs H Q E → vs.length = ps.length)
    (hbody : ∀ (cdv : Value) (A : Around) (outer : List Env) (s : Shared) (H : Hp) (vs : List V) (Q : VK) (E : XK), Room k (A.deeper (PyProof.Rows.envOfC qual (defScope st) s.heap.objs.size f cdv)) → sp vs H Q E →
      ∃ t, PSsT (cxOf CX0 P w K mg base N qual (defScope st) f cdv A outer s H E) (defBody st) t ∧ t { nx := fun _ H' => Q .non H', rt := Q } (start N vs) H) : FnOk P w K mg base CX0 (k + 1) f fd ps sp := by
  obtain ⟨oc, od, kV, doc, pm, an, cdv, ct, osl, rfl, lk, hcd⟩ := F.ex
  exact fn_ofT lk hcd S hnc hps len fun A outer s H vs Q E hr hsp => hbody cdv A outer s H vs Q E hr hsp
def spLeaf : Sp := fun vs H Q _ => ∃ (x : V) (t : PyData), vs = [x] ∧ Tr H x t ∧ gd t = true ∧ (∀ ts, t ≠ .tuple ts) ∧ ∀ H' : Hp, Same H H' → Q (.str (S (wr t))) H'
section
variable {P : Program} {w : World} {K : PySem.W.Frag} {mg : Str → Option Value} {base : Heap} {ad : Nm → Addr} {dd : Nm → FuncData}
theorem scLeaf : FnScope ["leaf", "escaped"] ["leaf"] (defScope sLeaf) := ⟨rfl, rfl, rfl, by decide +kernel, rfl, by decide +kernel, by decide +kernel⟩
theorem ok_leaf (T : Txt K mg ad dd) : FnOk P w K mg base CX0 2 (ad .Leaf) (dd .Leaf) ["leaf"] spLeaf := by
  have GDig := ok_dig (P := P) (w := w) (base := base) T
  refine fun_okT T.Leaf.F scLeaf (by decide +kernel) (by decide) (fun vs H Q E h => ?_) (fun cdv A outer s H vs Q E hr h => ?_)
  · obtain ⟨x, t, rfl, _⟩ := h
    rfl
  obtain ⟨x, t, rfl, tr, g, nt, k⟩ := h
  have hz : sizeLine = 16777216 := sizeLine_eq
  refine ⟨_, psst_cons (PST.of (ps_if (pt_cmpR op_isN (pv 0) pe_non (nomark _)) (pss_one (ps_ret pe_str)) pss_nil))
    (psst_cons (PST.of (ps_if (pt_cmpR op_is_b (pv 0) pe_bl (nomark _)) (pss_one (ps_ret pe_str)) pss_nil))
    (psst_cons (PST.of (ps_if (pt_cmpR op_is_b (pv 0) pe_bl (nomark _)) (pss_one (ps_ret pe_str)) pss_nil))
    (psst_cons (CwR.pst_if (pt_val (pe_callB call_isi (by rfl) T.n_isinstance bt_isinstance (pa_cons (pv 0) (pa_cons (pe_bltn (v := .ty "str") rfl T.n_str bt_str rfl) pa_nil))) (fun _ => rfl))
        (psst_cons (pst_set (i := 1) scLeaf.nd rfl (Or.inl rfl) (CwR.pet_replT (CwR.pet_replC (pv 0)))) (PSsT.of (pss_one (ps_ret (pe_op op_add_str (pe_op op_add_str pe_str (pv 1)) pe_str))))) CwR.psst_nil)
    (PSsT.of (pss_one (ps_ret (pe_call GDig (hr.mono (by decide)) rfl T.Dig.m T.Dig.F.kp T.Dig.b .nil pass0 (pa_cons (pv 0) pa_nil)))))))), ?_⟩
  cases tr with
  | non =>
    exact ⟨_, rfl, rfl, _, rfl, k H (Same.refl H)⟩
  | bl b =>
    refine ⟨_, rfl, rfl, _, rfl, _, rfl, _, rfl, .inl ⟨b, rfl, _, rfl, ?_⟩⟩
    cases b with
    | true => exact k H (Same.refl H)
    | false => exact ⟨_, rfl, _, rfl, .inl ⟨false, rfl, _, rfl, k H (Same.refl H)⟩⟩
  | int i =>
    refine ⟨_, rfl, rfl, _, rfl, _, rfl, _, rfl, .inr ⟨.inl ⟨i, rfl⟩, _, rfl, _, rfl, _, rfl, .inr ⟨.inl ⟨i, rfl⟩, _, rfl, ?_⟩⟩⟩
    refine ⟨_, rfl, _, _, _, _, false, rfl, .ty _, .base (.int i), k_is_, _, rfl, ?_⟩
    exact ⟨_, rfl, i, rfl, of_decide_eq_true g, fun H' q => k H' q⟩
  | str z =>
    refine ⟨_, rfl, rfl, _, rfl, _, rfl, _, rfl, .inr ⟨.inr (.inl ⟨z, rfl⟩), _, rfl, _, rfl, _, rfl, .inr ⟨.inr (.inl ⟨z, rfl⟩), _, rfl, ?_⟩⟩⟩
    refine ⟨_, rfl, _, _, _, _, true, rfl, .ty _, .base (.str z), k_ss, _, rfl, ?_⟩
    have g' : (z.cps.toList.all plainC && decide (z.length ≤ 12)) = true := g
    rw [Bool.and_eq_true] at g'
    have zl := of_decide_eq_true g'.2
    have l1 := TK.replace_len z (Str.ofString "\\") (Str.ofString "\\\\")
    have c2 : (Str.ofString "\\\\").length = 2 := by decide +kernel
    have c3 : (Str.ofString "\\\"").length = 2 := by decide +kernel
    have l2 := esc_len z.cps.toList
    have l3 : z.length = z.cps.toList.length := Array.length_toList.symm
    rw [c2] at l1
    refine ⟨_, rfl, z, rfl, by rw [c2]; omega, _, rfl, by rw [c3]; omega, ?_⟩
    refine ⟨_, rfl, _, _, rfl, rfl, by rw [esc_str, e34, S_len, S_len]; show 1 + _ ≤ _; omega, _, _, rfl, rfl, ?_, ?_⟩
    · rw [esc_str, e34, S_app, S_len, S_len, List.length_append]
      show 1 + _ + 1 ≤ _
      omega
    · rw [esc_str, e34, S_app, S_app]
      exact k H (Same.refl H)
  | tup h1 h2 => exact absurd rfl (nt _)
end
end TK
namespace TK
open PySem L2
/-! ### what waits, the next one first -/
inductive Ent where
  | node (t : PyData)
  | txt (l : List Nat)
def rnd : Ent → List Nat
  | .node t => wr t
  | .txt l => l
def rend (es : List Ent) : List Nat := (es.map rnd).flatten
def wt1 : Ent → Nat
  | .node t => 3 * pts t - 1
  | .txt _ => 1
def wt : List Ent → Nat
  | [] => 0
  | e :: r => wt1 e + wt r
theorem wt_app : ∀ a b : List Ent, wt (a ++ b) = wt a + wt b
  | [], b => (Nat.zero_add _).symm
  | e :: r, b => by
    show wt1 e + wt (r ++ b) = wt1 e + wt r + wt b
    rw [wt_app r b]; omega
theorem wt1_pos : ∀ e : Ent, 1 ≤ wt1 e
  | .node t => by
    have := pts_pos t
    show 1 ≤ 3 * pts t - 1
    omega
  | .txt _ => Nat.le_refl _
theorem len_wt : ∀ es : List Ent, es.length ≤ wt es
  | [] => Nat.le_refl _
  | e :: r => by
    have := len_wt r
    have := wt1_pos e
    show r.length + 1 ≤ wt1 e + wt r
    omega
/-- what is put on for the parts of a tuple; the flag: the first of these is its first part -/
def pf : Bool → List PyData → List Ent
  | _, [] => []
  | b, t :: us => (if b then [] else [.txt [32]]) ++ (.node t :: pf false us)
theorem wt_pf : ∀ (b : Bool) (us : List PyData), wt (pf b us) ≤ 3 * ptss us
  | _, [] => Nat.zero_le _
  | b, t :: us => by
    have ih := wt_pf false us
    have := pts_pos t
    show wt ((if b then [] else [.txt [32]]) ++ (.node t :: pf false us)) ≤ 3 * (pts t + ptss us)
    rw [wt_app]
    have e : wt (if b then [] else [.txt [32]]) ≤ 1 := by cases b <;> decide
    have e2 : wt (.node t :: pf false us) = (3 * pts t - 1) + wt (pf false us) := rfl
    omega
theorem rend_app (a b : List Ent) : rend (a ++ b) = rend a ++ rend b := by
  unfold rend
  rw [List.map_append, List.flatten_append]
theorem rend_pf_f : ∀ us : List PyData, rend (pf false us) = (us.map fun t => [32] ++ wr t).flatten
  | [] => rfl
  | t :: us => by
    have ih := rend_pf_f us
    show [32] ++ (wr t ++ rend (pf false us)) = _
    rw [ih, List.map_cons, List.flatten_cons, List.append_assoc]
theorem rend_pf_t : ∀ us : List PyData, rend (pf true us) = TL.joinL [32] (wrs us)
  | [] => rfl
  | [t] => by
    show wr t ++ [] = wr t
    rw [List.append_nil]
  | t :: u :: us => by
    have ih := rend_pf_t (u :: us)
    show wr t ++ rend (pf false (u :: us)) = wr t ++ ([32] ++ TL.joinL [32] (wrs (u :: us)))
    rw [← ih]
    rfl
set_option linter.unusedVariables false
def EntAt (H : Hp) (v : V) (e : Ent) : Prop := ∃ a : Addr, v = .ref a ∧ match e with
  | .node t => ∃ x : V, H a = some (.tup [x, .bl false]) ∧ Tr H x t ∧ gd t = true
  | .txt l => H a = some (.tup [.str (S l), .bl true])
theorem EntAt.keep {H H' : Hp} (s : Tups H H') {v : V} : ∀ {e : Ent}, EntAt H v e → EntAt H' v e
  | .node t, ⟨a, h1, x, h2, h3, h4⟩ => ⟨a, h1, x, s _ _ h2, Tr.keep s _ _ h3, h4⟩
  | .txt l, ⟨a, h1, h2⟩ => ⟨a, h1, s _ _ h2⟩
theorem ents_keep {H H' : Hp} (s : Tups H H') : ∀ {vs : List V} {es : List Ent}, Paired (EntAt H) vs es → Paired (EntAt H') vs es
  | _, _, .nil => .nil
  | _, _, .cons h t => .cons (h.keep s) (ents_keep s t)
theorem ents_len {H : Hp} {vs : List V} {es : List Ent} (h : Paired (EntAt H) vs es) : vs.length = es.length := Paired.length h
theorem tups_lst {H : Hp} {p : Addr} {xs : List V} {o : HO} (h : H p = some (.lst xs)) : Tups H (upd H p o) := fun a ys e => by
  rw [upd_ne (ne_of e h (by intro z; cases z))]
  exact e
theorem len_ptss : ∀ ts : List PyData, ts.length ≤ ptss ts
  | [] => Nat.le_refl _
  | t :: ts => by
    have h1 := len_ptss ts
    have h2 := pts_pos t
    show ts.length + 1 ≤ pts t + ptss ts
    omega
theorem ptss_drop : ∀ (n : Nat) (ts : List PyData), ptss (ts.drop n) ≤ ptss ts
  | 0, ts => by rw [List.drop_zero]; exact Nat.le_refl _
  | n + 1, [] => by rw [List.drop_nil]; exact Nat.le_refl _
  | n + 1, t :: ts => by
    rw [List.drop_succ_cons]
    exact Nat.le_trans (ptss_drop n ts) (Nat.le_add_left _ _)
theorem last_app {α : Type} (l : List α) (v : α) : (l ++ [v])[(l ++ [v]).length - 1]? = some v := by simp
theorem leaf_kit {K : PySem.W.Frag} : ∀ {u : PyData}, (∀ ts, u ≠ .tuple ts) → PySem.W.kitOne K (.type (nm u)) (.type "tuple") = some false
  | .none, _ => k_nt
  | .bool _, _ => k_bt
  | .int _, _ => k_it
  | .str _, _ => k_st
  | .tuple ts, h => absurd rfl (h ts)
  | .list _, _ => kit_ty (show kitB "list" "tuple" = some false by decide +kernel)
  | .dict _, _ => kit_ty (show kitB "dict" "tuple" = some false by decide +kernel)
/-- the text of a tree -/
def spWT : Sp := fun vs H Q _ => ∃ (x : V) (t : PyData), vs = [x] ∧ Tr H x t ∧ gd t = true ∧ pts t ≤ 2000 ∧ ∀ H' : Hp, Same H H' → Q (.str (S (wr t))) H'
/-- behind some turns: the pieces ps, what waits es -/
def WInv (H H' : Hp) (p q : Addr) (t : PyData) (m : Nat) : Prop := ∃ (ps : List (List Nat)) (vs : List V) (es : List Ent), H' p = some (.lst (ps.map fun l => .str (S l))) ∧ H' q = some (.lst vs.reverse) ∧ Paired (EntAt H') vs es ∧
  ps.flatten ++ rend es = wr t ∧ m = wt es ∧ ps.length + m ≤ 3 * pts t ∧ Same H H'
section
variable {P : Program} {w : World} {K : PySem.W.Frag} {mg : Str → Option Value} {base : Heap} {ad : Nm → Addr} {dd : Nm → FuncData}
theorem scWT : FnScope ["tree", "pieces", "waiting", "part", "ready", "k"] ["tree"] (defScope sWT) := ⟨rfl, rfl, rfl, by decide +kernel, rfl, by decide +kernel, by decide +kernel⟩
theorem ok_wt (T : Txt K mg ad dd) : FnOk P w K mg base CX0 3 (ad .WT) (dd .WT) ["tree"] spWT := by
  have GLeaf := ok_leaf (P := P) (w := w) (base := base) T
  refine T.WT.F.ok scWT (fun vs H Q E h => ?_) (fun cdv A outer s H vs Q E hr h => ?_)
  · obtain ⟨x, t, rfl, _⟩ := h
    rfl
  obtain ⟨x, t, rfl, tr, g, hp, k⟩ := h
  have hz : sizeLine = 16777216 := sizeLine_eq
  refine ⟨_, (pss_cons (ps_set (i := 1) scWT.nd rfl (Or.inl rfl) (pe_lst pa_nil))
      (pss_cons (ps_set (i := 2) scWT.nd rfl (Or.inl rfl) (pe_lst (pa_cons (pe_tup (pa_cons (pv 0) (pa_cons pe_bl pa_nil))) pa_nil)))
      (pss_cons (ps_while PassesOwn.never (pt_truth (pv 2) (fun _ => rfl)) (pss_cons (ps_asg (pe_bm0 PySem.F.plainAttrs_list PySem.F.slot_list_pop PySem.F.type_list_pop mt_pop (pv 2)) (pg_tup rfl (pgs_cons (pg_name (i := 3) scWT.nd rfl (Or.inl rfl)) (pgs_cons (pg_name (i := 4) scWT.nd rfl (Or.inl rfl)) pgs_nil))))
      (pss_one (ps_if (pt_truth (pv 4) (fun _ => rfl)) (pss_one (ps_expr (pe_bm PySem.F.plainAttrs_list PySem.F.slot_list_append PySem.F.type_list_append mt_append (pv 1) (pa_cons (pv 3) pa_nil)))) (pss_one (ps_if (pt_val (pe_callB call_isi (by rfl) T.n_isinstance bt_isinstance (pa_cons (pv 3) (pa_cons (pe_bltn (v := .ty "tuple") rfl T.n_tuple bt_tuple rfl) pa_nil))) (fun _ => rfl)) (pss_cons (ps_expr (pe_bm PySem.F.plainAttrs_list PySem.F.slot_list_append PySem.F.type_list_append mt_append (pv 1) (pa_cons pe_str pa_nil)))
      (pss_cons (ps_expr (pe_bm PySem.F.plainAttrs_list PySem.F.slot_list_append PySem.F.type_list_append mt_append (pv 2) (pa_cons (pe_tup (pa_cons pe_str (pa_cons pe_bl pa_nil))) pa_nil)))
      (pss_one (ps_for PassesOwn.never rfl (pi_range3 rfl T.n_range (pa_cons (pe_op op_sub (pe_callB call_len_seq (by rfl) T.n_len bt_len (pa_cons (pv 3) pa_nil)) pe_int) (pa_cons (pe_un un_neg pe_int) (pa_cons (pe_un un_neg pe_int) pa_nil)))) (pg_name (i := 5) scWT.nd rfl (Or.inl rfl)) (pss_cons (ps_expr (pe_bm PySem.F.plainAttrs_list PySem.F.slot_list_append PySem.F.type_list_append mt_append (pv 2) (pa_cons (pe_tup (pa_cons (pe_ix ix_tup (pv 3) (pv 5) (fun _ _ => rfl)) (pa_cons pe_bl pa_nil))) pa_nil)))
      (pss_one (ps_if (pt_cmpR op_gt (pv 5) pe_int (nomark _)) (pss_one (ps_expr (pe_bm PySem.F.plainAttrs_list PySem.F.slot_list_append PySem.F.type_list_append mt_append (pv 2) (pa_cons (pe_tup (pa_cons pe_str (pa_cons pe_bl pa_nil))) pa_nil)))) pss_nil))))))) (pss_one (ps_expr (pe_bm PySem.F.plainAttrs_list PySem.F.slot_list_append PySem.F.type_list_append mt_append (pv 1) (pa_cons (pe_call GLeaf (hr.mono (by first | decide | omega)) rfl T.Leaf.m T.Leaf.F.kp T.Leaf.b .nil pass0 (pa_cons (pv 3) pa_nil)) pa_nil))))))))))
      (pss_one (ps_ret (pe_join pe_str (pv 1))))))), ?_⟩
  refine ⟨Nat.zero_le _, fun p hp0 => ?_⟩
  have s1 := same_new hp0 (.lst [])
  have P1 : (upd H p (.lst [])) p = some (.lst []) := upd_same
  generalize upd H p (.lst []) = H1 at s1 P1
  refine ⟨_, rfl, (by show 2 ≤ sizeLine; decide), fun a ha => ?_⟩
  have s2 := same_new ha (.tup [x, .bl false])
  have A1 : (upd H1 a (.tup [x, .bl false])) a = some (.tup [x, .bl false]) := upd_same
  generalize upd H1 a (.tup [x, .bl false]) = H2 at s2 A1
  refine ⟨(by show 1 ≤ sizeLine; decide), fun q hq => ?_⟩
  have s3 := same_new hq (.lst [.ref a])
  have Q1 : (upd H2 q (.lst [.ref a])) q = some (.lst [.ref a]) := upd_same
  generalize upd H2 q (.lst [.ref a]) = H3 at s3 Q1
  have P3 := s3 _ _ (s2 _ _ P1)
  have npq : p ≠ q := ne_of_none (s2 _ _ P1) hq
  have hpH : H p = none := hp0
  have hqH : H q = none := (s1.trans s2).free hq
  have st : WInv H H3 p q t (3 * pts t - 1) := by
    have := pts_pos t
    exact ⟨[], [.ref a], [.node t], P3, Q1, .cons ⟨a, rfl, x, s3 _ _ A1, Tr.keep (Tups.of_same ((s1.trans s2).trans s3)) _ _ tr, g⟩ .nil, by show wr t ++ [] = wr t; rw [List.append_nil], rfl, by show 0 + (3 * pts t - 1) ≤ _; omega, (s1.trans s2).trans s3⟩
  refine ⟨fun m σ H' => (∃ o3 o4 o5 : Option V, σ = [some x, some (.ref p), some (.ref q), o3, o4, o5]) ∧ WInv H H' p q t m, ⟨_, ⟨none, none, none, rfl⟩, st⟩, ?_⟩
  rintro m σ H' ⟨⟨o3, o4, o5, rfl⟩, ps, vs, es, h1, h2, h3, h4, rfl, h5, h6⟩
  have psl : ps.length ≤ 6000 := by omega
  cases h3 with
  | nil =>
    refine ⟨_, rfl, false, .inl ⟨_, SqL.of h2, rfl⟩, ?_⟩
    have c0 : (Str.ofString "").length = 0 := by decide +kernel
    have e4 : ps.flatten = wr t := by
      have := h4
      rw [show rend [] = [] from rfl, List.append_nil] at this
      exact this
    refine ⟨⟨_, rfl⟩, _, rfl, _, p, ps.map S, rfl, rfl, .inl (SqL.of (by rw [List.map_map]; exact h1)), ?_, ?_⟩
    · rw [sum_S, List.length_map, c0, ← List.length_flatten, e4]
      have := wr_len t g
      omega
    · rw [join_flat, e4]
      exact k H' h6
  | @cons v e vs es hv hr =>
    rw [List.reverse_cons] at h2
    refine ⟨_, rfl, true, .inl ⟨_, SqL.of h2, by simp⟩, ?_⟩
    refine ⟨fun σ' H'' => ∃ m', m' < wt (e :: es) ∧ (∃ o3 o4 o5 : Option V, σ' = [some x, some (.ref p), some (.ref q), o3, o4, o5]) ∧ WInv H H'' p q t m', fun _ _ z => z, ?_⟩
    refine ⟨_, rfl, .inl ⟨rfl, _, .inl (.inl h2)⟩, q, _, v, rfl, rfl, h2, last_app _ _, ?_⟩
    have tk := tups_lst (o := .lst (vs.reverse ++ [v]).dropLast) h2
    have b1 : ∀ b o, b ≠ q → H' b = some o → (upd H' q (.lst (vs.reverse ++ [v]).dropLast)) b = some o := fun b o n z => by rw [upd_ne n]; exact z
    have Q4 : (upd H' q (.lst (vs.reverse ++ [v]).dropLast)) q = some (.lst vs.reverse) := by rw [upd_same, List.dropLast_concat]
    generalize upd H' q (.lst (vs.reverse ++ [v]).dropLast) = H4 at tk b1 Q4
    have P4 := b1 _ _ npq h1
    have S4 : Same H H4 := fun b o z => b1 _ _ (ne_of_none z hqH) (h6 _ _ z)
    have hv4 := EntAt.keep tk hv
    have hr4 := ents_keep tk hr
    have ewt : wt (e :: es) = wt1 e + wt es := rfl
    have evs := ents_len hr4
    have ewl := len_wt es
    cases e with
    | txt l =>
      obtain ⟨a1, rfl, ha1⟩ := hv4
      refine ⟨a1, _, rfl, SqT.of ha1, rfl, _, _, rfl, _, _, rfl, rfl, ?_⟩
      refine ⟨_, rfl, true, rfl, ?_⟩
      refine ⟨_, rfl, .inl ⟨rfl, _, .inl (.inl P4)⟩, _, rfl, p, _, _, rfl, rfl, P4, by rw [List.length_map]; omega, ?_⟩
      have t5 := tups_lst (o := .lst (ps.map (fun l => V.str (S l)) ++ [.str (S l)])) P4
      refine ⟨wt es, by rw [ewt]; show _ < 1 + _; omega, ⟨_, _, _, rfl⟩, ps ++ [l], vs, es, by rw [upd_same, List.map_append]; rfl, by rw [upd_ne npq.symm]; exact Q4, ents_keep t5 hr4, ?_, rfl, ?_, fun b o z => by rw [upd_ne (ne_of_none z hpH)]; exact S4 _ _ z⟩
      · rw [← h4, List.flatten_append, List.append_assoc]
        show ps.flatten ++ ((l ++ []) ++ rend es) = ps.flatten ++ (l ++ rend es)
        rw [List.append_nil]
      · rw [List.length_append]
        show ps.length + 1 + wt es ≤ _
        have : wt1 (Ent.txt l) = 1 := rfl
        omega
    | node u =>
      obtain ⟨a1, rfl, y, ha1, tru, gu⟩ := hv4
      have ew1 : wt1 (.node u) = 3 * pts u - 1 := rfl
      have up := pts_pos u
      refine ⟨a1, _, rfl, SqT.of ha1, rfl, _, _, rfl, _, _, rfl, rfl, ?_⟩
      refine ⟨_, rfl, false, rfl, ?_⟩
      by_cases isT : ∃ ts, u = .tuple ts
      · obtain ⟨ts, rfl⟩ := isT
        cases tru with
        | @tup b xs _ hb hx =>
        refine ⟨_, rfl, _, _, _, _, true, rfl, .ty _, .base (.tup hb), k_tt, _, rfl, ?_⟩
        have gts : gds ts = true := gu
        have pT : pts (.tuple ts) = ptss ts + 1 := rfl
        have tsl : ts.length ≤ ptss ts := len_ptss ts
        have xl := hx.length
        have big : ptss ts ≤ 6000 := by omega
        -- '('
        refine ⟨_, rfl, .inl ⟨rfl, _, .inl (.inl P4)⟩, p, _, _, rfl, rfl, P4, by rw [List.length_map]; omega, ?_⟩
        have t5 := tups_lst (o := .lst (ps.map (fun l => V.str (S l)) ++ [.str (Str.ofString "(")])) P4
        have b5 : ∀ b o, b ≠ p → H4 b = some o → (upd H4 p (.lst (ps.map (fun l => V.str (S l)) ++ [.str (Str.ofString "(")]))) b = some o := fun b o n z => by rw [upd_ne n]; exact z
        have P5 : (upd H4 p (.lst (ps.map (fun l => V.str (S l)) ++ [.str (Str.ofString "(")]))) p = some (.lst ((ps ++ [[40]]).map fun l => V.str (S l))) := by
          rw [upd_same, e40, List.map_append]; rfl
        generalize upd H4 p (.lst (ps.map (fun l => V.str (S l)) ++ [.str (Str.ofString "(")])) = H5 at t5 b5 P5
        have Q5 := b5 _ _ npq.symm Q4
        have S5 : Same H H5 := fun b o z => b5 _ _ (ne_of_none z hpH) (S4 _ _ z)
        -- ')'
        refine ⟨_, rfl, .inl ⟨rfl, _, .inl (.inl Q5)⟩, (by show 2 ≤ sizeLine; decide), fun c hc => ?_⟩
        have s6 := same_new hc (.tup [.str (Str.ofString ")"), .bl true])
        have C6 : (upd H5 c (.tup [.str (Str.ofString ")"), .bl true])) c = some (.tup [.str (S [41]), .bl true]) := by rw [upd_same, e41]
        generalize upd H5 c (.tup [.str (Str.ofString ")"), .bl true]) = H6 at s6 C6
        have Q6 := s6 _ _ Q5
        refine ⟨q, _, _, rfl, rfl, Q6, by rw [List.length_reverse]; omega, ?_⟩
        have t7 := tups_lst (o := .lst (vs.reverse ++ [.ref c])) Q6
        have b7 : ∀ b o, b ≠ q → H6 b = some o → (upd H6 q (.lst (vs.reverse ++ [.ref c]))) b = some o := fun b o n z => by rw [upd_ne n]; exact z
        have Q7 : (upd H6 q (.lst (vs.reverse ++ [.ref c]))) q = some (.lst (V.ref c :: vs).reverse) := by rw [upd_same, List.reverse_cons]
        generalize upd H6 q (.lst (vs.reverse ++ [.ref c])) = H7 at t7 b7 Q7
        have T47 : Tups H4 H7 := Tups.trans t5 (Tups.trans (Tups.of_same s6) t7)
        have P7 := b7 _ _ npq (s6 _ _ P5)
        have S7 : Same H H7 := fun b o z => b7 _ _ (ne_of_none z hqH) (s6 _ _ (S5 _ _ z))
        have R7 : Paired (EntAt H7) (V.ref c :: vs) (.txt [41] :: es) := .cons ⟨c, rfl, t7 _ _ C6⟩ (ents_keep T47 hr4)
        -- for k in range(len(part) - 1, -1, -1)
        refine ⟨_, rfl, b, _, rfl, .inr (SqT.of (T47 _ _ hb)), _, _, rfl, rfl, _, rfl, _, rfl, _, _, _, _, rfl, RgC.neg (by omega) (by omega) (by omega) (by omega), ?_⟩
        rw [show ((xs.length : Int) - 1 - -1).toNat = ts.length by omega]
        refine for_rangeC (fun i σ H8 => i ≤ ts.length ∧ ∃ (o5 : Option V) (ws : List V), σ = [some x, some (.ref p), some (.ref q), some (.ref b), some (.bl false), o5] ∧ H8 q = some (.lst ws.reverse) ∧
          Paired (EntAt H8) ws (pf (decide (ts.length - i = 0)) (ts.drop (ts.length - i)) ++ (.txt [41] :: es)) ∧ H8 p = some (.lst ((ps ++ [[40]]).map fun l => V.str (S l))) ∧ Same H H8 ∧ Tups H4 H8)
          ⟨Nat.zero_le _, _, _, rfl, Q7, ?_, P7, S7, T47⟩ ?_ ?_
        · rw [Nat.sub_zero, List.drop_length]
          show Paired (EntAt H7) (V.ref c :: vs) ((pf _ []) ++ (.txt [41] :: es))
          have : ∀ b, pf b [] = [] := fun b => by cases b <;> rfl
          rw [this]
          exact R7
        · rintro i σ H8 hi ⟨_, o6, ws, rfl, q8, r8, p8, s8, t8⟩
          have kk : ts.length - (i + 1) < ts.length := by omega
          have wl : ws.length ≤ 3 * ptss ts + 1 + wt es := by
            have e1 := ents_len r8
            have e2 := len_wt (pf (decide (ts.length - i = 0)) (ts.drop (ts.length - i)) ++ (.txt [41] :: es))
            have e3 := wt_pf (decide (ts.length - i = 0)) (ts.drop (ts.length - i))
            have e4 := ptss_drop (ts.length - i) ts
            rw [wt_app] at e2
            have e5 : wt (.txt [41] :: es) = 1 + wt es := rfl
            omega
          have hxk : xs[ts.length - (i + 1)]? = some xs[ts.length - (i + 1)] := List.getElem?_eq_getElem (by omega)
          obtain ⟨tk1, htk, trk⟩ := TrAll.get hx hxk
          have gk := (ts_get gts htk).1
          generalize xs[ts.length - (i + 1)] = yk at hxk trk
          have B8 := t8 _ _ hb
          refine ⟨_, rfl, .inl ⟨rfl, _, .inl (.inl q8)⟩, _, rfl, _, rfl, b, xs, _, yk, rfl, rfl, SqT.of B8, at_of (j := ts.length - (i + 1)) (by omega) hxk, (by show 2 ≤ sizeLine; decide), fun d hd => ?_⟩
          have s9 := same_new hd (.tup [yk, .bl false])
          have D9 : (upd H8 d (.tup [yk, .bl false])) d = some (.tup [yk, .bl false]) := upd_same
          generalize upd H8 d (.tup [yk, .bl false]) = H9 at s9 D9
          have q9 := s9 _ _ q8
          refine ⟨q, _, _, rfl, rfl, q9, by rw [List.length_reverse]; omega, ?_⟩
          have ta := tups_lst (o := .lst (ws.reverse ++ [.ref d])) q9
          have ba : ∀ b o, b ≠ q → H9 b = some o → (upd H9 q (.lst (ws.reverse ++ [.ref d]))) b = some o := fun b o n z => by rw [upd_ne n]; exact z
          have qa : (upd H9 q (.lst (ws.reverse ++ [.ref d]))) q = some (.lst (V.ref d :: ws).reverse) := by rw [upd_same, List.reverse_cons]
          generalize upd H9 q (.lst (ws.reverse ++ [.ref d])) = Ha at ta ba qa
          have T4a : Tups H4 Ha := Tups.trans t8 (Tups.trans (Tups.of_same s9) ta)
          have pa := ba _ _ npq (s9 _ _ p8)
          have sa : Same H Ha := fun b o z => ba _ _ (ne_of_none z hqH) (s9 _ _ (s8 _ _ z))
          have Ed : EntAt Ha (.ref d) (.node tk1) := ⟨d, rfl, yk, ta _ _ D9, Tr.keep T4a _ _ trk, gk⟩
          have fl : decide (ts.length - i = 0) = false := decide_eq_false (by omega)
          have dr : ts.drop (ts.length - (i + 1)) = tk1 :: ts.drop (ts.length - i) := by
            rw [show ts.length - i = ts.length - (i + 1) + 1 by omega]
            obtain ⟨hlt, e⟩ := List.getElem?_eq_some_iff.mp htk
            rw [List.drop_eq_getElem_cons hlt, e]
          rw [fl] at r8
          have ra : Paired (EntAt Ha) (V.ref d :: ws) (.node tk1 :: pf false (ts.drop (ts.length - i)) ++ (.txt [41] :: es)) := .cons Ed (ents_keep (Tups.trans (Tups.of_same s9) ta) r8)
          refine ⟨_, rfl, _, _, rfl, rfl, _, rfl, ?_⟩
          refine ite2 (fun cg => ?_) (fun cg => ?_)
          · have cg' : (0 : Int) < (xs.length : Int) - 1 + (i : Nat) * -1 := of_decide_eq_true cg
            have fl2 : decide (ts.length - (i + 1) = 0) = false := decide_eq_false (by omega)
            refine ⟨_, rfl, .inl ⟨rfl, _, .inl (.inl qa)⟩, (by show 2 ≤ sizeLine; decide), fun f hf => ?_⟩
            have sb := same_new hf (.tup [.str (Str.ofString " "), .bl true])
            have Fb : (upd Ha f (.tup [.str (Str.ofString " "), .bl true])) f = some (.tup [.str (S [32]), .bl true]) := by rw [upd_same, e32]
            generalize upd Ha f (.tup [.str (Str.ofString " "), .bl true]) = Hb at sb Fb
            have qb := sb _ _ qa
            refine ⟨q, _, _, rfl, rfl, qb, by rw [List.length_reverse]; show ws.length + 1 < _; omega, ?_⟩
            have tc := tups_lst (o := .lst ((V.ref d :: ws).reverse ++ [.ref f])) qb
            refine ⟨hi, _, V.ref f :: V.ref d :: ws, rfl, by rw [upd_same, List.reverse_cons, List.reverse_cons, List.reverse_cons], ?_, by rw [upd_ne npq]; exact sb _ _ pa, fun b o z => by rw [upd_ne (ne_of_none z hqH)]; exact sb _ _ (sa _ _ z), Tups.trans T4a (Tups.trans (Tups.of_same sb) tc)⟩
            rw [fl2, dr]
            exact .cons ⟨f, rfl, tc _ _ Fb⟩ (ents_keep (Tups.trans (Tups.of_same sb) tc) ra)
          · have cg' : ¬ (0 : Int) < (xs.length : Int) - 1 + (i : Nat) * -1 := of_decide_eq_false (Bool.eq_false_iff.mpr cg)
            have fl2 : decide (ts.length - (i + 1) = 0) = true := decide_eq_true (by omega)
            refine ⟨hi, _, V.ref d :: ws, rfl, qa, ?_, pa, sa, T4a⟩
            rw [fl2, dr]
            exact ra
        · rintro σ H8 ⟨_, o6, ws, rfl, q8, r8, p8, s8, t8⟩
          rw [Nat.sub_self, List.drop_zero, show decide (0 = 0) = true from rfl] at r8
          have e1 := wt_pf true ts
          have e5 : wt (.txt [41] :: es) = 1 + wt es := rfl
          refine ⟨wt (pf true ts ++ (.txt [41] :: es)), by rw [wt_app, e5, ewt, ew1, pT]; omega, ⟨_, _, _, rfl⟩, ps ++ [[40]], ws, _, p8, q8, r8, ?_, rfl, ?_, s8⟩
          · rw [← h4, List.flatten_append, rend_app, rend_pf_t, List.append_assoc]
            show ps.flatten ++ (([40] ++ []) ++ (TL.joinL [32] (wrs ts) ++ ([41] ++ rend es))) = ps.flatten ++ (([40] ++ TL.joinL [32] (wrs ts) ++ [41]) ++ rend es)
            rw [List.append_nil, List.append_assoc, List.append_assoc]
          · rw [wt_app, e5, List.length_append]
            show ps.length + 1 + _ ≤ _
            omega
      · have nt : ∀ ts, u ≠ .tuple ts := fun ts z => isT ⟨ts, z⟩
        refine ⟨_, rfl, _, _, _, _, false, rfl, .ty _, tru.ty, leaf_kit nt, _, rfl, ?_⟩
        refine ⟨_, rfl, .inl ⟨rfl, _, .inl (.inl P4)⟩, _, rfl, y, u, rfl, tru, gu, nt, fun H5 s5 => ?_⟩
        have P5 := s5 _ _ P4
        refine ⟨p, _, _, rfl, rfl, P5, by rw [List.length_map]; omega, ?_⟩
        have t5 := tups_lst (o := .lst (ps.map (fun l => V.str (S l)) ++ [.str (S (wr u))])) P5
        refine ⟨wt es, by rw [ewt]; omega, ⟨_, _, _, rfl⟩, ps ++ [wr u], vs, es, by rw [upd_same, List.map_append]; rfl, by rw [upd_ne npq.symm]; exact s5 _ _ Q4, ents_keep (Tups.trans (Tups.of_same s5) t5) hr4, ?_, rfl, ?_, fun b o z => by rw [upd_ne (ne_of_none z hpH)]; exact s5 _ _ (S4 _ _ z)⟩
        · rw [← h4, List.flatten_append, List.append_assoc]
          show ps.flatten ++ ((wr u ++ []) ++ rend es) = ps.flatten ++ (wr u ++ rend es)
          rw [List.append_nil]
        · rw [List.length_append]
          show ps.length + 1 + wt es ≤ _
          omega
end
end TK
namespace TK
open PySem L2
/-! ### the reader's fields -/
theorem lk_hit {f : Str} {v : V} {r : List (Str × V)} : List.lookup f ((f, v) :: r) = some v := by simp [List.lookup]
theorem lk_miss {f g : Str} {v : V} {r : List (Str × V)} (h : ¬ f = g) : List.lookup f ((g, v) :: r) = List.lookup f r := by
  have e : (f == g) = false := beq_eq_false_iff_ne.mpr h
  simp [List.lookup, e]
theorem pf_hit {f : Str} {v w : V} {r : List (Str × V)} : putF f w ((f, v) :: r) = (f, w) :: r := by
  show (if f = f then _ else _) = _
  rw [if_pos rfl]
theorem pf_miss {f g : Str} {v w : V} {r : List (Str × V)} (h : ¬ g = f) : putF f w ((g, v) :: r) = (g, v) :: putF f w r := by
  show (if g = f then _ else _) = _
  rw [if_neg h]
theorem pf_nil {f : Str} {w : V} : putF f w [] = [(f, w)] := rfl
theorem n_text_most_parts : ¬ ("text" : Str) = "most_parts" := by decide +kernel
theorem n_text_most_deep : ¬ ("text" : Str) = "most_deep" := by decide +kernel
theorem n_text_at : ¬ ("text" : Str) = "at" := by decide +kernel
theorem n_text_many : ¬ ("text" : Str) = "many" := by decide +kernel
theorem n_text_unclosed : ¬ ("text" : Str) = "unclosed" := by decide +kernel
theorem n_text_result : ¬ ("text" : Str) = "result" := by decide +kernel
theorem n_most_parts_text : ¬ ("most_parts" : Str) = "text" := by decide +kernel
theorem n_most_parts_most_deep : ¬ ("most_parts" : Str) = "most_deep" := by decide +kernel
theorem n_most_parts_at : ¬ ("most_parts" : Str) = "at" := by decide +kernel
theorem n_most_parts_many : ¬ ("most_parts" : Str) = "many" := by decide +kernel
theorem n_most_parts_unclosed : ¬ ("most_parts" : Str) = "unclosed" := by decide +kernel
theorem n_most_parts_result : ¬ ("most_parts" : Str) = "result" := by decide +kernel
theorem n_most_deep_text : ¬ ("most_deep" : Str) = "text" := by decide +kernel
theorem n_most_deep_most_parts : ¬ ("most_deep" : Str) = "most_parts" := by decide +kernel
theorem n_most_deep_at : ¬ ("most_deep" : Str) = "at" := by decide +kernel
theorem n_most_deep_many : ¬ ("most_deep" : Str) = "many" := by decide +kernel
theorem n_most_deep_unclosed : ¬ ("most_deep" : Str) = "unclosed" := by decide +kernel
theorem n_most_deep_result : ¬ ("most_deep" : Str) = "result" := by decide +kernel
theorem n_at_text : ¬ ("at" : Str) = "text" := by decide +kernel
theorem n_at_most_parts : ¬ ("at" : Str) = "most_parts" := by decide +kernel
theorem n_at_most_deep : ¬ ("at" : Str) = "most_deep" := by decide +kernel
theorem n_at_many : ¬ ("at" : Str) = "many" := by decide +kernel
theorem n_at_unclosed : ¬ ("at" : Str) = "unclosed" := by decide +kernel
theorem n_at_result : ¬ ("at" : Str) = "result" := by decide +kernel
theorem n_many_text : ¬ ("many" : Str) = "text" := by decide +kernel
theorem n_many_most_parts : ¬ ("many" : Str) = "most_parts" := by decide +kernel
theorem n_many_most_deep : ¬ ("many" : Str) = "most_deep" := by decide +kernel
theorem n_many_at : ¬ ("many" : Str) = "at" := by decide +kernel
theorem n_many_unclosed : ¬ ("many" : Str) = "unclosed" := by decide +kernel
theorem n_many_result : ¬ ("many" : Str) = "result" := by decide +kernel
theorem n_unclosed_text : ¬ ("unclosed" : Str) = "text" := by decide +kernel
theorem n_unclosed_most_parts : ¬ ("unclosed" : Str) = "most_parts" := by decide +kernel
theorem n_unclosed_most_deep : ¬ ("unclosed" : Str) = "most_deep" := by decide +kernel
theorem n_unclosed_at : ¬ ("unclosed" : Str) = "at" := by decide +kernel
theorem n_unclosed_many : ¬ ("unclosed" : Str) = "many" := by decide +kernel
theorem n_unclosed_result : ¬ ("unclosed" : Str) = "result" := by decide +kernel
theorem n_result_text : ¬ ("result" : Str) = "text" := by decide +kernel
theorem n_result_most_parts : ¬ ("result" : Str) = "most_parts" := by decide +kernel
theorem n_result_most_deep : ¬ ("result" : Str) = "most_deep" := by decide +kernel
theorem n_result_at : ¬ ("result" : Str) = "at" := by decide +kernel
theorem n_result_many : ¬ ("result" : Str) = "many" := by decide +kernel
theorem n_result_unclosed : ¬ ("result" : Str) = "unclosed" := by decide +kernel
theorem n_whole_text : ¬ ("whole" : Str) = "text" := by decide +kernel
theorem n_whole_most_parts : ¬ ("whole" : Str) = "most_parts" := by decide +kernel
theorem n_whole_most_deep : ¬ ("whole" : Str) = "most_deep" := by decide +kernel
theorem n_whole_at : ¬ ("whole" : Str) = "at" := by decide +kernel
theorem n_whole_many : ¬ ("whole" : Str) = "many" := by decide +kernel
theorem n_whole_unclosed : ¬ ("whole" : Str) = "unclosed" := by decide +kernel
theorem n_whole_result : ¬ ("whole" : Str) = "result" := by decide +kernel
theorem n_begin_part_text : ¬ ("begin_part" : Str) = "text" := by decide +kernel
theorem n_begin_part_most_parts : ¬ ("begin_part" : Str) = "most_parts" := by decide +kernel
theorem n_begin_part_most_deep : ¬ ("begin_part" : Str) = "most_deep" := by decide +kernel
theorem n_begin_part_at : ¬ ("begin_part" : Str) = "at" := by decide +kernel
theorem n_begin_part_many : ¬ ("begin_part" : Str) = "many" := by decide +kernel
theorem n_begin_part_unclosed : ¬ ("begin_part" : Str) = "unclosed" := by decide +kernel
theorem n_begin_part_result : ¬ ("begin_part" : Str) = "result" := by decide +kernel
theorem n_go_on_text : ¬ ("go_on" : Str) = "text" := by decide +kernel
theorem n_go_on_most_parts : ¬ ("go_on" : Str) = "most_parts" := by decide +kernel
theorem n_go_on_most_deep : ¬ ("go_on" : Str) = "most_deep" := by decide +kernel
theorem n_go_on_at : ¬ ("go_on" : Str) = "at" := by decide +kernel
theorem n_go_on_many : ¬ ("go_on" : Str) = "many" := by decide +kernel
theorem n_go_on_unclosed : ¬ ("go_on" : Str) = "unclosed" := by decide +kernel
theorem n_go_on_result : ¬ ("go_on" : Str) = "result" := by decide +kernel
theorem n_end_part_text : ¬ ("end_part" : Str) = "text" := by decide +kernel
theorem n_end_part_most_parts : ¬ ("end_part" : Str) = "most_parts" := by decide +kernel
theorem n_end_part_most_deep : ¬ ("end_part" : Str) = "most_deep" := by decide +kernel
theorem n_end_part_at : ¬ ("end_part" : Str) = "at" := by decide +kernel
theorem n_end_part_many : ¬ ("end_part" : Str) = "many" := by decide +kernel
theorem n_end_part_unclosed : ¬ ("end_part" : Str) = "unclosed" := by decide +kernel
theorem n_end_part_result : ¬ ("end_part" : Str) = "result" := by decide +kernel
theorem n_following_text : ¬ ("following" : Str) = "text" := by decide +kernel
theorem n_following_most_parts : ¬ ("following" : Str) = "most_parts" := by decide +kernel
theorem n_following_most_deep : ¬ ("following" : Str) = "most_deep" := by decide +kernel
theorem n_following_at : ¬ ("following" : Str) = "at" := by decide +kernel
theorem n_following_many : ¬ ("following" : Str) = "many" := by decide +kernel
theorem n_following_unclosed : ¬ ("following" : Str) = "unclosed" := by decide +kernel
theorem n_following_result : ¬ ("following" : Str) = "result" := by decide +kernel
theorem n_spell_text : ¬ ("spell" : Str) = "text" := by decide +kernel
theorem n_spell_most_parts : ¬ ("spell" : Str) = "most_parts" := by decide +kernel
theorem n_spell_most_deep : ¬ ("spell" : Str) = "most_deep" := by decide +kernel
theorem n_spell_at : ¬ ("spell" : Str) = "at" := by decide +kernel
theorem n_spell_many : ¬ ("spell" : Str) = "many" := by decide +kernel
theorem n_spell_unclosed : ¬ ("spell" : Str) = "unclosed" := by decide +kernel
theorem n_spell_result : ¬ ("spell" : Str) = "result" := by decide +kernel
theorem n_read_number_text : ¬ ("read_number" : Str) = "text" := by decide +kernel
theorem n_read_number_most_parts : ¬ ("read_number" : Str) = "most_parts" := by decide +kernel
theorem n_read_number_most_deep : ¬ ("read_number" : Str) = "most_deep" := by decide +kernel
theorem n_read_number_at : ¬ ("read_number" : Str) = "at" := by decide +kernel
theorem n_read_number_many : ¬ ("read_number" : Str) = "many" := by decide +kernel
theorem n_read_number_unclosed : ¬ ("read_number" : Str) = "unclosed" := by decide +kernel
theorem n_read_number_result : ¬ ("read_number" : Str) = "result" := by decide +kernel
theorem n_read_string_text : ¬ ("read_string" : Str) = "text" := by decide +kernel
theorem n_read_string_most_parts : ¬ ("read_string" : Str) = "most_parts" := by decide +kernel
theorem n_read_string_most_deep : ¬ ("read_string" : Str) = "most_deep" := by decide +kernel
theorem n_read_string_at : ¬ ("read_string" : Str) = "at" := by decide +kernel
theorem n_read_string_many : ¬ ("read_string" : Str) = "many" := by decide +kernel
theorem n_read_string_unclosed : ¬ ("read_string" : Str) = "unclosed" := by decide +kernel
theorem n_read_string_result : ¬ ("read_string" : Str) = "result" := by decide +kernel
/-- the attributes of a reader -/
def rf (z : List Nat) (k many : Nat) (u : Addr) (res : V) : List (Str × V) := [("text", .str (S z)), ("most_parts", .int 2000), ("most_deep", .int 30), ("at", .int (k : Int)), ("many", .int (many : Int)), ("unclosed", .ref u), ("result", res)]
section
variable {z : List Nat} {k many : Nat} {u : Addr} {res : V}
theorem rf_text : (rf z k many u res).lookup ("text" : Str) = some (.str (S z)) := lk_hit
theorem rf_most_parts : (rf z k many u res).lookup ("most_parts" : Str) = some (.int 2000) := (lk_miss n_most_parts_text).trans (lk_hit)
theorem rf_most_deep : (rf z k many u res).lookup ("most_deep" : Str) = some (.int 30) := (lk_miss n_most_deep_text).trans ((lk_miss n_most_deep_most_parts).trans (lk_hit))
theorem rf_at : (rf z k many u res).lookup ("at" : Str) = some (.int (k : Int)) := (lk_miss n_at_text).trans ((lk_miss n_at_most_parts).trans ((lk_miss n_at_most_deep).trans (lk_hit)))
theorem rf_many : (rf z k many u res).lookup ("many" : Str) = some (.int (many : Int)) := (lk_miss n_many_text).trans ((lk_miss n_many_most_parts).trans ((lk_miss n_many_most_deep).trans ((lk_miss n_many_at).trans (lk_hit))))
theorem rf_unclosed : (rf z k many u res).lookup ("unclosed" : Str) = some (.ref u) := (lk_miss n_unclosed_text).trans ((lk_miss n_unclosed_most_parts).trans ((lk_miss n_unclosed_most_deep).trans ((lk_miss n_unclosed_at).trans ((lk_miss n_unclosed_many).trans (lk_hit)))))
theorem rf_result : (rf z k many u res).lookup ("result" : Str) = some (res) := (lk_miss n_result_text).trans ((lk_miss n_result_most_parts).trans ((lk_miss n_result_most_deep).trans ((lk_miss n_result_at).trans ((lk_miss n_result_many).trans ((lk_miss n_result_unclosed).trans (lk_hit))))))
theorem rf_whole : (rf z k many u res).lookup ("whole" : Str) = none := (lk_miss n_whole_text).trans ((lk_miss n_whole_most_parts).trans ((lk_miss n_whole_most_deep).trans ((lk_miss n_whole_at).trans ((lk_miss n_whole_many).trans ((lk_miss n_whole_unclosed).trans ((lk_miss n_whole_result).trans (rfl)))))))
theorem rf_begin_part : (rf z k many u res).lookup ("begin_part" : Str) = none := (lk_miss n_begin_part_text).trans ((lk_miss n_begin_part_most_parts).trans ((lk_miss n_begin_part_most_deep).trans ((lk_miss n_begin_part_at).trans ((lk_miss n_begin_part_many).trans ((lk_miss n_begin_part_unclosed).trans ((lk_miss n_begin_part_result).trans (rfl)))))))
theorem rf_go_on : (rf z k many u res).lookup ("go_on" : Str) = none := (lk_miss n_go_on_text).trans ((lk_miss n_go_on_most_parts).trans ((lk_miss n_go_on_most_deep).trans ((lk_miss n_go_on_at).trans ((lk_miss n_go_on_many).trans ((lk_miss n_go_on_unclosed).trans ((lk_miss n_go_on_result).trans (rfl)))))))
theorem rf_end_part : (rf z k many u res).lookup ("end_part" : Str) = none := (lk_miss n_end_part_text).trans ((lk_miss n_end_part_most_parts).trans ((lk_miss n_end_part_most_deep).trans ((lk_miss n_end_part_at).trans ((lk_miss n_end_part_many).trans ((lk_miss n_end_part_unclosed).trans ((lk_miss n_end_part_result).trans (rfl)))))))
theorem rf_following : (rf z k many u res).lookup ("following" : Str) = none := (lk_miss n_following_text).trans ((lk_miss n_following_most_parts).trans ((lk_miss n_following_most_deep).trans ((lk_miss n_following_at).trans ((lk_miss n_following_many).trans ((lk_miss n_following_unclosed).trans ((lk_miss n_following_result).trans (rfl)))))))
theorem rf_spell : (rf z k many u res).lookup ("spell" : Str) = none := (lk_miss n_spell_text).trans ((lk_miss n_spell_most_parts).trans ((lk_miss n_spell_most_deep).trans ((lk_miss n_spell_at).trans ((lk_miss n_spell_many).trans ((lk_miss n_spell_unclosed).trans ((lk_miss n_spell_result).trans (rfl)))))))
theorem rf_read_number : (rf z k many u res).lookup ("read_number" : Str) = none := (lk_miss n_read_number_text).trans ((lk_miss n_read_number_most_parts).trans ((lk_miss n_read_number_most_deep).trans ((lk_miss n_read_number_at).trans ((lk_miss n_read_number_many).trans ((lk_miss n_read_number_unclosed).trans ((lk_miss n_read_number_result).trans (rfl)))))))
theorem rf_read_string : (rf z k many u res).lookup ("read_string" : Str) = none := (lk_miss n_read_string_text).trans ((lk_miss n_read_string_most_parts).trans ((lk_miss n_read_string_most_deep).trans ((lk_miss n_read_string_at).trans ((lk_miss n_read_string_many).trans ((lk_miss n_read_string_unclosed).trans ((lk_miss n_read_string_result).trans (rfl)))))))
theorem rfp_at (j : Nat) : putF ("at" : Str) (.int (j : Int)) (rf z k many u res) = rf z j many u res := by
  unfold rf
  rw [pf_miss n_text_at, pf_miss n_most_parts_at, pf_miss n_most_deep_at, pf_hit]
theorem rfp_many (j : Nat) : putF ("many" : Str) (.int (j : Int)) (rf z k many u res) = rf z k j u res := by
  unfold rf
  rw [pf_miss n_text_many, pf_miss n_most_parts_many, pf_miss n_most_deep_many, pf_miss n_at_many, pf_hit]
theorem rfp_result (y : V) : putF ("result" : Str) y (rf z k many u res) = rf z k many u y := by
  unfold rf
  rw [pf_miss n_text_result, pf_miss n_most_parts_result, pf_miss n_most_deep_result, pf_miss n_at_result, pf_miss n_many_result, pf_miss n_unclosed_result, pf_hit]
theorem rf_len : (rf z k many u res).length < 1000 := by show 7 < 1000; decide
theorem rf_made (z : List Nat) (u : Addr) : putF ("result" : Str) .non (putF ("unclosed" : Str) (.ref u) (putF ("many" : Str) (.int 0) (putF ("at" : Str) (.int 0) (putF ("most_deep" : Str) (.int 30) (putF ("most_parts" : Str) (.int 2000) (putF ("text" : Str) (.str (S z)) [])))))) = rf z 0 0 u .non := by
  rw [pf_nil, pf_miss n_text_most_parts, pf_nil, pf_miss n_text_most_deep, pf_miss n_most_parts_most_deep, pf_nil, pf_miss n_text_at, pf_miss n_most_parts_at, pf_miss n_most_deep_at, pf_nil, pf_miss n_text_many, pf_miss n_most_parts_many, pf_miss n_most_deep_many, pf_miss n_at_many, pf_nil, pf_miss n_text_unclosed, pf_miss n_most_parts_unclosed, pf_miss n_most_deep_unclosed, pf_miss n_at_unclosed, pf_miss n_many_unclosed, pf_nil, pf_miss n_text_result, pf_miss n_most_parts_result, pf_miss n_most_deep_result, pf_miss n_at_result, pf_miss n_many_result, pf_miss n_unclosed_result, pf_nil]
  rfl
end
/-- nothing but the object at r differs -/
theorem upd_self {H : Hp} {r : Addr} {o : HO} (h : H r = some o) : upd H r o = H := by
  funext b
  by_cases e : b = r
  · rw [e, upd_same, h]
  · rw [upd_ne e]
end TK
namespace TK
open PySem L2
/-! ### signs -/
theorem e36 : Str.ofString "$" = S [36] := by decide +kernel
theorem e38 : Str.ofString "&" = S [38] := by decide +kernel
theorem e45 : Str.ofString "-" = S [45] := by decide +kernel
theorem e48 : Str.ofString "0" = S [48] := by decide +kernel
theorem e49 : Str.ofString "1" = S [49] := by decide +kernel
theorem e57 : Str.ofString "9" = S [57] := by decide +kernel
theorem e92 : Str.ofString "\\" = S [92] := by decide +kernel
theorem e110 : Str.ofString "n" = S [110] := by decide +kernel
theorem e121 : Str.ofString "y" = S [121] := by decide +kernel
theorem e126 : Str.ofString "~" = S [126] := by decide +kernel
theorem eyes : Str.ofString "yes" = S [121, 101, 115] := by decide +kernel
theorem eno : Str.ofString "no" = S [110, 111] := by decide +kernel
theorem S_inj {a b : List Nat} : S a = S b ↔ a = b := by
  constructor
  · intro h
    have e := congrArg (fun x : Str => x.cps.toList) h
    exact e
  · intro h; rw [h]
theorem str_ne {a b : List Nat} (h : a ≠ b) : decide ((V.str (S a)) = .str (S b)) = false := decide_eq_false fun e => h (S_inj.mp (V.str.inj e))
theorem str_eq {a : List Nat} : decide ((V.str (S a)) = .str (S a)) = true := decide_eq_true rfl
theorem le_cc (c d : Nat) : (!decide ((S [c]).cps.toList < (S [d]).cps.toList)) = decide (d ≤ c) := by
  have e : ((S [c]).cps.toList < (S [d]).cps.toList) ↔ c < d := by
    show List.Lex (· < ·) [c] [d] ↔ c < d
    constructor
    · intro h
      cases h with
      | rel h => exact h
      | cons h => cases h
    · exact fun h => .rel h
  by_cases q : c < d
  · rw [decide_eq_true (e.mpr q), decide_eq_false (by omega)]; rfl
  · rw [decide_eq_false (fun z => q (e.mp z)), decide_eq_true (by omega)]; rfl
theorem le_ce (d : Nat) : (!decide ((S []).cps.toList < (S [d]).cps.toList)) = false := by
  have e : (S []).cps.toList < (S [d]).cps.toList := by
    show List.Lex (· < ·) [] [d]
    exact .nil
  rw [decide_eq_true e]; rfl
theorem at_last (xs : List V) (v : V) : atI (xs ++ [v]) (-1) = some v := by
  have e : ixN (xs ++ [v]).length (-1) = some xs.length := by
    unfold ixN
    rw [List.length_append, List.length_singleton]
    rw [if_neg (by decide), if_pos (by omega)]
    congr 1
    omega
  unfold atI
  rw [e]
  simp
theorem take1 (c : Nat) (l : List Nat) : (c :: l).take 1 = [c] := rfl
theorem drop_tail {z l : List Nat} {c k : Nat} (h : z.drop k = c :: l) : z.drop (k + 1) = l := by
  rw [← List.drop_drop, h]; rfl
theorem drop_app {z l r : List Nat} {k : Nat} (h : z.drop k = l ++ r) : z.drop (k + l.length) = r := by
  rw [← List.drop_drop, h, List.drop_left]
/-! ### the sign at the reader -/
section
variable (C : Addr)
/-- the reader r: its text z, its index k, rest the rest of the text -/
def RdAt (H : Hp) (r : Addr) (z rest : List Nat) (k many : Nat) (u : Addr) (res : V) (dx : Addr) : Prop := H r = some (.ins C dx (rf z k many u res)) ∧ z.drop k = rest ∧ z.length ≤ sizeLine
def spRF : Sp := fun vs H Q _ => ∃ (r dx : Addr) (z rest : List Nat) (k many : Nat) (u : Addr) (res : V), vs = [.ref r] ∧ RdAt C H r z rest k many u res dx ∧ Q (.str (S (rest.take 1))) H
def spPlain : Sp := fun vs H Q _ => (∃ c : Nat, vs = [.str (S [c])] ∧ Q (.bl (plainC c)) H) ∨ (vs = [.str (S [])] ∧ Q (.bl false) H)
/-- a part is done -/
def spRE : Sp := fun vs H Q _ => ∃ (r dx : Addr) (z rest : List Nat) (k many : Nat) (u : Addr) (res y : V) (us : List V), vs = [.ref r, y] ∧ RdAt C H r z rest k many u res dx ∧ H u = some (.lst us) ∧
  ((us = [] ∧ Q .non (upd H r (.ins C dx (rf z k many u y)))) ∨ ∃ (vs' : List V) (l : Addr) (xs : List V), us = vs' ++ [.ref l] ∧ H l = some (.lst xs) ∧ xs.length < sizeLine ∧ Q .non (upd H l (.lst (xs ++ [y]))))
end
section
variable {P : Program} {w : World} {K : PySem.W.Frag} {mg : Str → Option Value} {base : Heap} {ad : Nm → Addr} {dd : Nm → FuncData}
theorem scPlain : FnScope ["sign"] ["sign"] (defScope sPlain) := ⟨rfl, rfl, rfl, by decide +kernel, rfl, by decide +kernel, by decide +kernel⟩
theorem scRF : FnScope ["self"] ["self"] (defScope sRF) := ⟨rfl, rfl, rfl, by decide +kernel, rfl, by decide +kernel, by decide +kernel⟩
theorem scRE : FnScope ["self", "part"] ["self", "part"] (defScope sRE) := ⟨rfl, rfl, rfl, by decide +kernel, rfl, by decide +kernel, by decide +kernel⟩
theorem ok_plain (T : Txt K mg ad dd) : FnOk P w K mg base CX0 1 (ad .Plain) (dd .Plain) ["sign"] spPlain := by
  refine T.Plain.F.ok scPlain (fun vs H Q E h => ?_) (fun cdv A outer s H vs Q E hr h => ?_)
  · rcases h with ⟨c, rfl, _⟩ | ⟨rfl, _⟩ <;> rfl
  refine ⟨_, (pss_one (ps_ret (pe_or (pe_chain op_le_str op_le_str pe_str (pv 0) pe_str) (pe_one (pe_chain op_le_str op_le_str pe_str (pv 0) pe_str))))), ?_⟩
  rcases h with ⟨c, rfl, k⟩ | ⟨rfl, k⟩
  · have e : plainC c = (decide (32 ≤ c) && decide (c ≤ 36) || decide (38 ≤ c) && decide (c ≤ 126)) := rfl
    rw [e] at k
    refine ⟨_, rfl, _, _, rfl, rfl, _, rfl, ?_⟩
    rw [e32, le_cc]
    have second : decide (32 ≤ c) = false ∨ decide (c ≤ 36) = false → tChain (fun x y H Q => ∃ i j, x = V.str i ∧ y = V.str j ∧ Q (V.bl !decide (j.cps.toList < i.cps.toList)) H) (fun x y H Q => ∃ i j, x = V.str i ∧ y = V.str j ∧ Q (V.bl !decide (j.cps.toList < i.cps.toList)) H)
        (tC (V.str (S [38]))) (tVar 0) (tC (V.str (S [126]))) (L2.start ["sign"] [V.str (S [c])]) H Q := by
      intro z
      have k' : Q (.bl (decide (38 ≤ c) && decide (c ≤ 126))) H := by
        rcases z with z | z
        · rw [z, Bool.false_and, Bool.false_or] at k; exact k
        · rw [z, Bool.and_false, Bool.false_or] at k; exact k
      refine ⟨_, rfl, _, _, rfl, rfl, _, rfl, ?_⟩
      rw [le_cc]
      refine ite2 (fun c3 => ⟨_, _, rfl, rfl, ?_⟩) (fun c3 => ?_)
      · rw [le_cc]
        rw [c3, Bool.true_and] at k'
        exact k'
      · rw [Bool.eq_false_iff.mpr c3, Bool.false_and] at k'
        exact k'
    refine ite2 (fun c1 => ⟨_, _, rfl, rfl, _, rfl, ?_⟩) (fun c1 => ⟨_, rfl, iteF ?_⟩)
    · rw [e36, le_cc, e38, e126]
      refine ite2 (fun c2 => ?_) (fun c2 => ?_)
      · rw [c1, c2, Bool.true_and, Bool.true_or] at k
        exact k
      · exact second (.inr (Bool.eq_false_iff.mpr c2))
    · rw [e38, e126]
      exact second (.inl (Bool.eq_false_iff.mpr c1))
  · refine ⟨_, rfl, _, _, rfl, rfl, _, rfl, ?_⟩
    rw [e32, le_ce]
    refine iteF ⟨_, rfl, iteF ⟨_, rfl, _, _, rfl, rfl, _, rfl, ?_⟩⟩
    rw [e38, le_ce]
    exact iteF k
theorem ok_rf (T : Txt K mg ad dd) : FnOk P w K mg base CX0 1 (ad .RF) (dd .RF) ["self"] (spRF (ad .Reader)) := by
  refine T.RF.F.ok scRF (fun vs H Q E h => ?_) (fun cdv A outer s H vs Q E hr h => ?_)
  · obtain ⟨r, dx, z, rest, k, many, u, res, rfl, _⟩ := h
    rfl
  obtain ⟨r, dx, z, rest, k, many, u, res, rfl, ⟨hr0, rfl, hz⟩, q⟩ := h
  refine ⟨_, (pss_one (ps_ret (pe_slice sl_str (pe_fld (pv 0) rfl) (po_some (pe_fld (pv 0) rfl)) (po_some (pe_op op_add (pe_fld (pv 0) rfl) pe_int))))), ?_⟩
  refine ⟨_, rfl, r, _, dx, _, _, rfl, hr0, T.cl, T.aText, rf_text, ?_⟩
  refine ⟨_, rfl, r, _, dx, _, _, rfl, hr0, T.cl, T.aAt, rf_at, _, rfl, ?_⟩
  refine ⟨_, rfl, r, _, dx, _, _, rfl, hr0, T.cl, T.aAt, rf_at, _, _, rfl, rfl, _, rfl, S z, rfl, by rw [S_len]; exact hz, ?_⟩
  have e : cutS (S z) (some (k : Int)) (some ((k : Int) + 1)) = S ((z.drop k).take 1) := by
    show S _ = S _
    rw [S_inj, S_len, HT.sIx_nat, show (k : Int) + 1 = ((k + 1 : Nat) : Int) by omega, HT.sIx_nat]
    show ((z.drop (min k z.length)).take _) = _
    by_cases h : k < z.length
    · rw [Nat.min_eq_left (Nat.le_of_lt h), show min (k + 1) z.length - k = 1 by omega]
    · rw [List.drop_eq_nil_of_le (show z.length ≤ min k z.length by omega), List.drop_eq_nil_of_le (by omega), List.take_nil, List.take_nil]
  rw [e]
  exact q
theorem ok_re (T : Txt K mg ad dd) : FnOk P w K mg base CX0 1 (ad .RE) (dd .RE) ["self", "part"] (spRE (ad .Reader)) := by
  refine T.RE.F.ok scRE (fun vs H Q E h => ?_) (fun cdv A outer s H vs Q E hr h => ?_)
  · obtain ⟨r, dx, z, rest, k, many, u, res, y, us, rfl, _⟩ := h
    rfl
  obtain ⟨r, dx, z, rest, k, many, u, res, y, us, rfl, ⟨hr0, rfl, hz⟩, hu, q⟩ := h
  refine ⟨_, (pss_one (ps_if (pt_truth (pe_fld (pv 0) rfl) (fun _ => rfl)) (pss_one (ps_expr (pe_bm PySem.F.plainAttrs_list PySem.F.slot_list_append PySem.F.type_list_append mt_append (pe_ix ix_list (pe_fld (pv 0) rfl) (pe_un un_neg pe_int) (fun _ _ => rfl)) (pa_cons (pv 1) pa_nil)))) (pss_one (ps_fld (pv 0) (pv 1) rfl)))), ?_⟩
  rcases q with ⟨rfl, q⟩ | ⟨vs', l, xs, rfl, hl, hx, q⟩
  · refine ⟨_, rfl, r, _, dx, _, _, rfl, hr0, T.cl, T.aUnclosed, rf_unclosed, false, .inl ⟨_, SqL.of hu, rfl⟩, ?_⟩
    refine iteF ⟨_, rfl, _, rfl, r, _, dx, _, rfl, hr0, T.cl, T.aResult, rf_len, ?_⟩
    rw [rfp_result]
    exact q
  · refine ⟨_, rfl, r, _, dx, _, _, rfl, hr0, T.cl, T.aUnclosed, rf_unclosed, true, .inl ⟨_, SqL.of hu, by simp⟩, ?_⟩
    refine iteT ⟨_, rfl, r, _, dx, _, _, rfl, hr0, T.cl, T.aUnclosed, rf_unclosed, _, rfl, u, _, _, .ref l, rfl, rfl, SqL.of hu, ?_, .inl ⟨rfl, _, .inl (.inl hl)⟩, _, rfl, l, _, _, rfl, rfl, hl, hx, q⟩
    exact at_last _ _
end
end TK
namespace TK
open PySem L2
/-! ### NoText is raised -/
/-- NoText with the index j stands with its dict at d -/
def NoAt (H' : Hp) (d : Addr) (j : Int) : Prop := H' d = some (.xd [("index", .int j)])
def spNI (C : Addr) : Sp := fun vs H Q _ => ∃ (a : Addr) (y : V), vs = [.ref a, y] ∧ H a = some (exo a C none) ∧ ∀ dx : Addr, H dx = none → dx ≠ a → Q .non (upd (upd H dx (exd dx [("index", y)])) a (exo a C (some dx)))
section
variable {P : Program} {w : World} {K : PySem.W.Frag} {mg : Str → Option Value} {base : Heap} {ad : Nm → Addr} {dd : Nm → FuncData}
theorem scNI : FnScope ["self", "index"] ["self", "index"] (defScope sNI) := ⟨rfl, rfl, rfl, by decide +kernel, rfl, by decide +kernel, by decide +kernel⟩
theorem ok_ni (T : Txt K mg ad dd) : FnOk P w K mg base CX0 1 (ad .NI) (dd .NI) ["self", "index"] (spNI (ad .NoText)) := by
  refine T.NI.F.ok scNI (fun vs H Q E h => ?_) (fun cdv A outer s H vs Q E hr h => ?_)
  · obtain ⟨a, y, rfl, _⟩ := h
    rfl
  obtain ⟨a, y, rfl, g, q⟩ := h
  refine ⟨_, pss_one (ps_ost (pv 0) (pv 1)), ?_⟩
  exact ⟨_, rfl, _, rfl, a, _, rfl, T.oex, T.noIx, .inl ⟨g, q⟩⟩
/-- raise NoText(e) -/
theorem ps_no {X : Cx} {W : WX} {e : Expr} {te : TE} {p pos pos2 : Pos} (T : Txt X.K X.mg ad dd) (hr : Room 2 X.A) (hc : X.calm = true) (tk : Takes X W) (hg : Gl X "NoText") (he : PE X e te) (hs : starEach (e :: []) X.env = (false, eval e X.env) :: starEach [] X.env := by rfl)
    (hpl : (backTo pos (starEach [] X.env)).any (·.1) = false := by rfl) : PS X (.Raise (some (.Call (.Name "NoText" p) [e] [] pos)) none pos2) (fun _ σ H => tMkO (ad .NoText) (spNI (ad .NoText)) [] (tCons te tNil) σ H fun cls d H' => W cls d σ H') :=
  ps_raise hc tk (pmk_oex T.oex T.iNo T.tNI (ok_ni (P := X.prog) (w := X.w) (base := X.base) T) hr T.NI.b .nil pass0 hg T.mgNo (pa_cons he pa_nil hs) (by decide) hs hpl)
theorem del_none {H : Hp} {a b : Addr} (h : H b = none) : del H a b = none := by
  by_cases e : b = a
  · rw [e, del_same]
  · rw [del_ne e, h]
theorem no_read {C : Addr} {H1 : Hp} {j : Int} {Q : XK} {E : XK} (q : ∀ (d : Addr) (H' : Hp), Same H1 H' → H1 d = none → NoAt H' d j → Q (.ref C) (some d) H') :
    [V.int j].length ≤ 1000 ∧ ∀ a, H1 a = none → spNI C (.ref a :: ([V.int j] ++ [])) (upd H1 a (exo a C none)) (fun v H2 => v = .non ∧ ∃ (d : Addr) (fs : List (Str × V)), H2 a = some (exo a C (some d)) ∧ H2 d = some (exd d fs) ∧ H1 d = none ∧ Q (.ref C) (some d) (upd (del H2 a) d (.xd fs))) E := by
  refine ⟨(by show 1 ≤ 1000; decide), fun a ha => ⟨a, _, rfl, upd_same, fun dx hdx ne => ⟨rfl, dx, [("index", .int j)], upd_same, by rw [upd_ne ne]; exact upd_same, ?_, ?_⟩⟩⟩
  · rw [upd_ne ne] at hdx
    exact hdx
  · have hd1 : H1 dx = none := by rw [upd_ne ne] at hdx; exact hdx
    refine q dx _ (fun b o e => ?_) hd1 upd_same
    have n1 := ne_of_none e ha
    have n2 := ne_of_none e hd1
    rw [upd_ne n2, del_ne n1, upd_ne n1, upd_ne n2, upd_ne n1]
    exact e
end
end TK
namespace TK
open PySem L2
/-! ### the walk sign by sign -/
inductive Md where
  | part | first | minus | fin | str | esc
  | word (l : List Nat)
  | digs (r : Nat)
/-- mode, open brackets, parts -/
structure Sta where
  md : Md
  op : Nat
  pa : Nat
/-- behind a part: a space, or the bracket that ends -/
def beh (o p c : Nat) : Option Sta :=
  if c = 32 ∧ 0 < o ∧ p < 2000 then some ⟨.part, o, p⟩ else if c = 41 ∧ 0 < o then some ⟨.fin, o - 1, p⟩ else none
def begMd (c : Nat) : Option Md :=
  if c = 40 then some .first else if c = 45 then some .minus else if c = 48 then some .fin else if c = 34 then some .str else if c = 121 then some (.word [101, 115]) else if c = 110 then some (.word [111])
  else if 49 ≤ c ∧ c ≤ 57 then some (.digs 99) else none
def beg (o p c : Nat) : Option Sta :=
  if 29 < o ∨ 1999 < p then none else (begMd c).map fun m => ⟨m, if c = 40 then o + 1 else o, p + 1⟩
def stp (s : Sta) (c : Nat) : Option Sta :=
  match s.md with
  | .str => if c = 34 then some { s with md := .fin } else if c = 92 then some { s with md := .esc } else if plainC c then some s else none
  | .esc => if c = 34 ∨ c = 92 then some { s with md := .str } else none
  | .word [] => none
  | .word (x :: l) => if c = x then some { s with md := if l = [] then .fin else .word l } else none
  | .part => beg s.op s.pa c
  | .first => if c = 41 then beh s.op s.pa c else beg s.op s.pa c
  | .minus => if 49 ≤ c ∧ c ≤ 57 then some { s with md := .digs 99 } else beh s.op s.pa c
  | .digs r => if 48 ≤ c ∧ c ≤ 57 then (if r = 0 then none else some { s with md := .digs (r - 1) }) else beh s.op s.pa c
  | .fin => beh s.op s.pa c
def fine (s : Sta) : Bool := decide (s.op = 0) && (match s.md with | .fin => true | .minus => true | .digs _ => true | _ => false)
/-- the index of the first sign up to which no tree's text goes -/
def verd (s : Sta) : List Nat → Option Nat
  | [] => if fine s then none else some 0
  | c :: l => match stp s c with
    | none => some 0
    | some s' => (verd s' l).map (· + 1)
theorem verd_step {s s' : Sta} {c : Nat} {l : List Nat} (h : stp s c = some s') : verd s (c :: l) = (verd s' l).map (· + 1) := by
  show (match stp s c with | none => some 0 | some s' => (verd s' l).map (· + 1)) = _
  rw [h]
theorem verd_bad {s : Sta} {c : Nat} {l : List Nat} (h : stp s c = none) : verd s (c :: l) = some 0 := by
  show (match stp s c with | none => some 0 | some s' => (verd s' l).map (· + 1)) = _
  rw [h]
/-- so far: what is due of z is what is due of the rest, from the state s, k signs on -/
def Due (z : List Nat) (k : Nat) (s : Sta) (rest : List Nat) : Prop := verd ⟨.part, 0, 0⟩ z = (verd s rest).map (· + k)
theorem Due.on {z : List Nat} {k c : Nat} {s s' : Sta} {l : List Nat} (d : Due z k s (c :: l)) (h : stp s c = some s') : Due z (k + 1) s' l := by
  unfold Due at d ⊢
  rw [d, verd_step h, Option.map_map]
  congr 1
  funext i
  show i + 1 + k = i + (k + 1)
  omega
theorem Due.bad {z : List Nat} {k c : Nat} {s : Sta} {l : List Nat} (d : Due z k s (c :: l)) (h : stp s c = none) : verd ⟨.part, 0, 0⟩ z = some k := by
  unfold Due at d
  rw [d, verd_bad h]
  show some (0 + k) = some k
  rw [Nat.zero_add]
theorem Due.short {z : List Nat} {k : Nat} {s : Sta} (d : Due z k s []) (h : fine s = false) : verd ⟨.part, 0, 0⟩ z = some k := by
  unfold Due at d
  rw [d]
  show Option.map _ (if fine s = true then none else some 0) = _
  rw [h, if_neg (by decide)]
  show some (0 + k) = some k
  rw [Nat.zero_add]
theorem Due.good {z : List Nat} {k : Nat} {s : Sta} (d : Due z k s []) (h : fine s = true) : verd ⟨.part, 0, 0⟩ z = none := by
  unfold Due at d
  rw [d]
  show Option.map _ (if fine s = true then none else some 0) = _
  rw [h, if_pos rfl]
  rfl
end TK
namespace TK
open PySem L2
/-! ### signs are spelt -/
def spRS (C CN : Addr) : Sp := fun vs H Q E => ∃ (r dx : Addr) (z l rest : List Nat) (k many : Nat) (u : Addr) (res : V), vs = [.ref r, .str (S l)] ∧ RdAt C H r z rest k many u res dx ∧
  (∀ (rest' : List Nat) (H' : Hp), rest = l ++ rest' → But r H H' → RdAt C H' r z rest' (k + l.length) many u res dx → Q .non H') ∧
  (∀ (i : Nat) (rest2 : List Nat) (d : Addr) (H' : Hp), i < l.length → rest = l.take i ++ rest2 → (∀ c r2, rest2 = c :: r2 → l[i]? ≠ some c) → But r H H' → NoAt H' d ((k + i : Nat) : Int) → E (.ref CN) (some d) H')
section
variable {P : Program} {w : World} {K : PySem.W.Frag} {mg : Str → Option Value} {base : Heap} {ad : Nm → Addr} {dd : Nm → FuncData}
theorem scRS : FnScope ["self", "signs", "sign"] ["self", "signs"] (defScope sRS) := ⟨rfl, rfl, rfl, by decide +kernel, rfl, by decide +kernel, by decide +kernel⟩
theorem ok_rs (T : Txt K mg ad dd) : FnOk P w K mg base (L2.CX P w) 3 (ad .RS) (dd .RS) ["self", "signs"] (spRS (ad .Reader) (ad .NoText)) := by
  have GRF := ok_rf (P := P) (w := w) (base := base) T
  refine T.RS.F.okX scRS (fun vs H Q E h => ?_) (fun cdv A outer s H vs Q E hr h => ?_)
  · obtain ⟨r, dx, z, l, rest, k, many, u, res, rfl, _⟩ := h
    rfl
  obtain ⟨r, dx, z, l, rest, k, many, u, res, rfl, ⟨hr0, hd, hz⟩, q, qe⟩ := h
  refine ⟨_, (pss_one (ps_for (passes_of rfl) rfl (pi_str (pv 1)) (pg_name (i := 2) scRS.nd rfl (Or.inl rfl)) (pss_cons (ps_if (pt_cmpR op_ne (pe_meth0 (pv 0) T.cl T.RF.M GRF (hr.mono (by first | decide | omega)) T.RF.b .nil pass0) (pv 2) (nomark _)) (pss_one (ps_no T hr rfl (takes_of rfl rfl rfl rfl) rfl (pe_fld (pv 0) rfl))) pss_nil)
      (pss_one (ps_fldaug (pv 0) pe_int in_add))))), ?_⟩
  refine ⟨_, rfl, S l, rfl, ?_⟩
  refine for_it walk_str (fun i σ H' => But r H H' ∧ (∃ ri, rest = l.take i ++ ri ∧ RdAt (ad .Reader) H' r z ri (k + i) many u res dx) ∧ ∃ o : Option V, σ = [some (.ref r), some (.str (S l)), o]) ⟨But.refl _ _, ⟨rest, rfl, hr0, hd, hz⟩, _, rfl⟩ (fun _ _ _ _ _ => True.intro) ?_ ?_
  · rintro i x σ H' H'' hi ⟨b1, ⟨ri, hri, h1, h2, h3⟩, o, rfl⟩ ⟨rfl, c, hc, rfl⟩
    have hil : i < l.length := by
      have : (S l).cps.size = l.length := List.size_toArray
      omega
    have hc' : l[i]? = some c := by
      have : l.toArray[i]? = some c := hc
      rwa [List.getElem?_toArray] at this
    have tki : l.take (i + 1) = l.take i ++ [c] := by
      obtain ⟨hlt, e⟩ := List.getElem?_eq_some_iff.mp hc'
      rw [List.take_succ_eq_append_getElem hlt, e]
    refine ⟨_, rfl, r, dx, _, rfl, h1, rf_following, r, dx, z, _, _, many, u, res, rfl, ⟨h1, h2, h3⟩, ?_⟩
    refine ⟨_, rfl, rfl, _, rfl, ?_⟩
    have bad : (∀ c' r2, ri = c' :: r2 → c' ≠ c) → (tMkO (ad .NoText) (spNI (ad .NoText)) [] (tCons (tFld K (tVar 0) "at") tNil) [some (.ref r), some (.str (S l)), some (.str ⟨#[c]⟩)] H'' fun cls d H' => E cls d H') := fun nc => by
      refine ⟨_, rfl, r, _, dx, _, _, rfl, h1, T.cl, T.aAt, rf_at, ?_⟩
      refine no_read fun d H2 s2 dn na => qe i ri d H2 hil hri (fun c' r2 e e2 => nc c' r2 e ?_) (But.trans b1 (But.of_same s2)) na
      rw [hc'] at e2
      exact (Option.some.inj e2).symm
    cases ri with
    | nil =>
      have e0 : (!decide ((V.str (S (List.take 1 ([] : List Nat)))) = V.str ⟨#[c]⟩)) = true := by
        show (!decide ((V.str (S [])) = V.str (S [c]))) = true
        rw [str_ne (by intro q; cases q)]; rfl
      rw [e0]
      exact iteT (bad fun c' r2 e => by cases e)
    | cons c' r2 =>
      by_cases hcc : c' = c
      · subst hcc
        have e0 : (!decide ((V.str (S (List.take 1 (c' :: r2)))) = V.str ⟨#[c']⟩)) = false := by
          show (!decide ((V.str (S [c'])) = V.str (S [c']))) = false
          rw [str_eq]; rfl
        rw [e0]
        refine iteF ⟨_, rfl, r, _, dx, _, _, rfl, h1, T.cl, T.aAt, rf_at, _, _, rfl, rfl, dx, _, h1, rf_len, ?_⟩
        rw [show ((k + i : Nat) : Int) + 1 = ((k + (i + 1) : Nat) : Int) by omega, rfp_at]
        exact ⟨But.trans b1 But.put, ⟨r2, by rw [tki, hri, List.append_assoc]; rfl, upd_same, by rw [← Nat.add_assoc]; exact drop_tail h2, h3⟩, _, rfl⟩
      · have e0 : (!decide ((V.str (S (List.take 1 (c' :: r2)))) = V.str ⟨#[c]⟩)) = true := by
          show (!decide ((V.str (S [c'])) = V.str (S [c]))) = true
          rw [str_ne (by intro q; exact hcc (List.cons.inj q).1)]; rfl
        rw [e0]
        exact iteT (bad fun c2 r3 e => by cases e; exact hcc)
  · rintro σ H' ⟨b1, ⟨ri, hri, h1, h2, h3⟩, o, rfl⟩
    have e1 : (S l).cps.size = l.length := List.size_toArray
    rw [e1, List.take_length] at hri
    rw [e1] at h1 h2
    exact q ri H' hri b1 ⟨h1, h2, h3⟩
end
end TK
namespace TK
open PySem L2
/-! ### a string is read -/
/-- the index of the first sign that is wrong in the string -/
inductive SBad : List Nat → Nat → Prop where
  | nil : SBad [] 0
  | odd {c : Nat} {r : List Nat} : plainC c = false → SBad (c :: r) 0
  | esc0 : SBad [92] 1
  | esc1 {c : Nat} {r : List Nat} : c ≠ 34 → c ≠ 92 → SBad (92 :: c :: r) 1
  | plain {c : Nat} {r : List Nat} {j : Nat} : c ≠ 34 → c ≠ 92 → plainC c = true → SBad r j → SBad (c :: r) (j + 1)
  | escd {c : Nat} {r : List Nat} {j : Nat} : c = 34 ∨ c = 92 → SBad r j → SBad (92 :: c :: r) (j + 2)
theorem esc_cons (c : Nat) (l : List Nat) : esc (c :: l) = (if c = 92 then [92, 92] else if c = 34 then [92, 34] else [c]) ++ esc l := rfl
theorem esc_two {c : Nat} (l : List Nat) (h : c = 34 ∨ c = 92) : esc (c :: l) = 92 :: c :: esc l := by
  rcases h with rfl | rfl <;> rfl
theorem esc_one {c : Nat} (l : List Nat) (h1 : c ≠ 34) (h2 : c ≠ 92) : esc (c :: l) = c :: esc l := by
  rw [esc_cons, if_neg h2, if_neg h1]; rfl
theorem esc_app : ∀ a b : List Nat, esc (a ++ b) = esc a ++ esc b
  | [], b => rfl
  | c :: a, b => by
    rw [List.cons_append, esc_cons, esc_cons, esc_app a b, List.append_assoc]
theorem esc_ge : ∀ l : List Nat, l.length ≤ (esc l).length
  | [] => Nat.le_refl _
  | c :: r => by
    have ih := esc_ge r
    by_cases h : c = 34 ∨ c = 92
    · rw [esc_two _ h]
      simp only [List.length_cons]; omega
    · rw [esc_one _ (fun z => h (.inl z)) (fun z => h (.inr z))]
      simp only [List.length_cons]; omega
theorem SBad.app {ri : List Nat} {j : Nat} (h : SBad ri j) : ∀ xs : List Nat, xs.all plainC = true → SBad (esc xs ++ ri) ((esc xs).length + j)
  | [], _ => by
    show SBad ri (0 + j)
    rw [Nat.zero_add]; exact h
  | c :: xs, ha => by
    rw [List.all_cons, Bool.and_eq_true] at ha
    have ih := SBad.app h xs ha.2
    by_cases e : c = 34 ∨ c = 92
    · rw [esc_two _ e, show (92 :: c :: esc xs).length + j = (esc xs).length + j + 2 by simp only [List.length_cons]; omega]
      exact .escd e ih
    · rw [esc_one _ (fun z => e (.inl z)) (fun z => e (.inr z)), show (c :: esc xs).length + j = (esc xs).length + j + 1 by simp only [List.length_cons]; omega]
      exact .plain (fun z => e (.inl z)) (fun z => e (.inr z)) ha.1 ih
def spRQ (C CN : Addr) : Sp := fun vs H Q E => ∃ (r dx : Addr) (z rest : List Nat) (k many : Nat) (u : Addr) (res : V), vs = [.ref r] ∧ RdAt C H r z (34 :: rest) k many u res dx ∧
  (∀ (x rest' : List Nat) (H' : Hp), rest = esc x ++ 34 :: rest' → x.all plainC = true → But r H H' → RdAt C H' r z rest' (k + ((esc x).length + 2)) many u res dx → Q (.str (S x)) H') ∧
  (∀ (j : Nat) (d : Addr) (H' : Hp), SBad rest j → But r H H' → NoAt H' d ((k + 1 + j : Nat) : Int) → E (.ref CN) (some d) H')
section
variable {P : Program} {w : World} {K : PySem.W.Frag} {mg : Str → Option Value} {base : Heap} {ad : Nm → Addr} {dd : Nm → FuncData}
theorem scRQ : FnScope ["self", "pieces", "sign"] ["self"] (defScope sRQ) := ⟨rfl, rfl, rfl, by decide +kernel, rfl, by decide +kernel, by decide +kernel⟩
theorem ok_rq (T : Txt K mg ad dd) : FnOk P w K mg base (L2.CX P w) 3 (ad .RQ) (dd .RQ) ["self"] (spRQ (ad .Reader) (ad .NoText)) := by
  have GRF := ok_rf (P := P) (w := w) (base := base) T
  have GPlain := ok_plain (P := P) (w := w) (base := base) T
  refine T.RQ.F.okX scRQ (fun vs H Q E h => ?_) (fun cdv A outer s H vs Q E hr h => ?_)
  · obtain ⟨r, dx, z, rest, k, many, u, res, rfl, _⟩ := h
    rfl
  obtain ⟨r, dx, z, rest, k, many, u, res, rfl, ⟨hr0, hd, hz⟩, q, qe⟩ := h
  have hzl : sizeLine = 16777216 := sizeLine_eq
  have zlen : rest.length + 1 = z.length - k := by rw [← List.length_drop, hd, List.length_cons]
  refine ⟨_, (pss_cons (ps_fldaug (pv 0) pe_int in_add)
      (pss_cons (ps_set (i := 1) scRQ.nd rfl (Or.inl rfl) (pe_lst pa_nil))
      (pss_cons (ps_while (passes_of rfl) (pt_cmpR op_ne (pe_meth0 (pv 0) T.cl T.RF.M GRF (hr.mono (by first | decide | omega)) T.RF.b .nil pass0) pe_str (nomark _)) (pss_cons (ps_set (i := 2) scRQ.nd rfl (Or.inl rfl) (pe_meth0 (pv 0) T.cl T.RF.M GRF (hr.mono (by first | decide | omega)) T.RF.b .nil pass0))
      (Evl.pss_cut (ps_if (pt_cmpR op_eq (pv 2) pe_str (nomark _)) (pss_cons (ps_fldaug (pv 0) pe_int in_add)
      (pss_cons (ps_set (i := 2) scRQ.nd rfl (Or.inl rfl) (pe_meth0 (pv 0) T.cl T.RF.M GRF (hr.mono (by first | decide | omega)) T.RF.b .nil pass0))
      (pss_one (ps_if (PW.pt (pw_and (pt_cmpR op_ne (pv 2) pe_str (nomark _)) (pw_and1 (pt_cmpR op_ne (pv 2) pe_str (nomark _))))) (pss_one (ps_no T hr rfl (takes_of rfl rfl rfl rfl) rfl (pe_fld (pv 0) rfl))) pss_nil)))) (pss_one (ps_if (pt_not (pt_val (pe_call GPlain (hr.mono (by first | decide | omega)) rfl T.Plain.m T.Plain.F.kp T.Plain.b .nil pass0 (pa_cons (pv 2) pa_nil)) (fun _ => rfl))) (pss_one (ps_no T hr rfl (takes_of rfl rfl rfl rfl) rfl (pe_fld (pv 0) rfl))) pss_nil)))
      (pss_cons (ps_expr (pe_bm PySem.F.plainAttrs_list PySem.F.slot_list_append PySem.F.type_list_append mt_append (pv 1) (pa_cons (pv 2) pa_nil)))
      (pss_one (ps_fldaug (pv 0) pe_int in_add))))))
      (pss_cons (ps_fldaug (pv 0) pe_int in_add)
      (pss_one (ps_ret (pe_join pe_str (pv 1)))))))), ?_⟩
  refine ⟨_, rfl, r, _, dx, _, _, rfl, hr0, T.cl, T.aAt, rf_at, _, _, rfl, rfl, dx, _, hr0, rf_len, ?_⟩
  rw [show ((k : Nat) : Int) + 1 = ((k + 1 : Nat) : Int) by omega, rfp_at]
  have R1 : RdAt (ad .Reader) (upd H r (.ins (ad .Reader) dx (rf z (k + 1) many u res))) r z rest (k + 1) many u res dx := ⟨upd_same, drop_tail hd, hz⟩
  have B1 : But r H (upd H r (.ins (ad .Reader) dx (rf z (k + 1) many u res))) := But.put
  generalize upd H r (.ins (ad .Reader) dx (rf z (k + 1) many u res)) = H1 at R1 B1
  refine ⟨Nat.zero_le _, fun p hp => ?_⟩
  have npr : p ≠ r := fun e => by rw [e, R1.1] at hp; cases hp
  have hpH : H p = none := by
    cases e : H p with
    | none => rfl
    | some o => exact absurd (B1 p o npr e) (by rw [hp]; intro z; cases z)
  refine ⟨fun m σ H2 => ∃ (xs ri : List Nat) (k2 : Nat) (o : Option V), σ = [some (.ref r), some (.ref p), o] ∧ rest = esc xs ++ ri ∧ xs.all plainC = true ∧ m = ri.length ∧ H2 p = some (.lst (xs.map fun c => .str (S [c]))) ∧ But r H H2 ∧
    RdAt (ad .Reader) H2 r z ri k2 many u res dx ∧ k2 = k + 1 + (esc xs).length, ⟨rest.length, [], rest, k + 1, none, rfl, rfl, rfl, rfl, upd_same, ?_, ⟨?_, R1.2⟩, rfl⟩, ?_⟩
  · exact fun b o n e => by rw [upd_ne (ne_of_none (B1 b o n e) hp)]; exact B1 b o n e
  · rw [upd_ne npr.symm]; exact R1.1
  rintro m σ H2 ⟨xs, ri, k2, o, rfl, hxy, hpl, rfl, hp2, b2, ⟨g1, g2, g3⟩, hk⟩
  have xle : xs.length ≤ rest.length := by
    have := esc_ge xs
    rw [hxy, List.length_append]; omega
  have pre : ∀ (a : Nat) l, List.take 1 (a :: l) = [a] := fun a l => rfl
  have bad : ∀ (j : Nat) (H3 : Hp) (k3 : Nat) (o3 : Option V), SBad ri j → k3 = k2 + j → But r H H3 → H3 r = some (.ins (ad .Reader) dx (rf z k3 many u res)) →
      (tMkO (ad .NoText) (spNI (ad .NoText)) [] (tCons (tFld K (tVar 0) "at") tNil) [some (.ref r), some (.ref p), o3] H3 fun cls d H' => E cls d H') := fun j H3 k3 o3 sb ek b3 h3 => by
    refine ⟨_, rfl, r, _, dx, _, _, rfl, h3, T.cl, T.aAt, rf_at, ?_⟩
    refine no_read fun d H4 s4 dn na => qe ((esc xs).length + j) d H4 (by rw [hxy]; exact SBad.app sb xs hpl) (But.trans b3 (But.of_same s4)) ?_
    rw [show k + 1 + ((esc xs).length + j) = k3 by omega]
    exact na
  refine ⟨_, rfl, r, dx, _, rfl, g1, rf_following, r, dx, z, _, _, many, u, res, rfl, ⟨g1, g2, g3⟩, rfl, _, rfl, ?_⟩
  rw [e34]
  cases ri with
  | nil =>
    rw [show List.take 1 ([] : List Nat) = [] from rfl, str_ne (by intro q; cases q)]
    refine iteT ⟨fun _ _ => False, fun _ _ z => z.elim, ?_⟩
    refine ⟨_, rfl, r, dx, _, rfl, g1, rf_following, r, dx, z, _, _, many, u, res, rfl, ⟨g1, g2, g3⟩, ?_⟩
    refine ⟨fun _ _ => False, ?_, fun _ _ z => z.elim⟩
    refine ⟨_, rfl, rfl, _, rfl, ?_⟩
    rw [e92, show List.take 1 ([] : List Nat) = [] from rfl, str_ne (by intro q; cases q)]
    refine iteF ⟨_, rfl, .inr ⟨rfl, _, rfl, iteT ?_⟩⟩
    exact bad 0 H2 k2 _ .nil rfl b2 g1
  | cons c ri =>
    rw [pre]
    by_cases c34 : c = 34
    · subst c34
      rw [str_eq]
      refine iteF ⟨_, rfl, r, _, dx, _, _, rfl, g1, T.cl, T.aAt, rf_at, _, _, rfl, rfl, dx, _, g1, rf_len, ?_⟩
      rw [show ((k2 : Nat) : Int) + 1 = ((k2 + 1 : Nat) : Int) by omega, rfp_at]
      have fl : (xs.map fun c => [c]).flatten = xs := by
        have h : ∀ l : List Nat, (l.map fun c => [c]).flatten = l := fun l => by
          induction l with
          | nil => rfl
          | cons a b ih => rw [List.map_cons, List.flatten_cons, ih]; rfl
        exact h xs
      have c0 : (Str.ofString "").length = 0 := by decide +kernel
      refine ⟨⟨_, rfl⟩, _, rfl, _, p, (xs.map fun c => [c]).map S, rfl, rfl, .inl (SqL.of (by rw [upd_ne npr, List.map_map, List.map_map]; exact hp2)), ?_, ?_⟩
      · rw [sum_S, List.length_map, c0, ← List.length_flatten, fl]
        omega
      · rw [join_flat, fl]
        have ek : k2 + 1 = k + ((esc xs).length + 2) := by omega
        refine q xs ri _ hxy hpl (But.trans b2 But.put) ⟨?_, by rw [← ek]; exact drop_tail g2, g3⟩
        rw [upd_same, ek]
    · rw [str_ne (by intro q; exact c34 (List.cons.inj q).1)]
      refine iteT ⟨fun σ' H'' => ∃ m', m' < (c :: ri).length ∧ ∃ (xs ri : List Nat) (k2 : Nat) (o : Option V), σ' = [some (.ref r), some (.ref p), o] ∧ rest = esc xs ++ ri ∧ xs.all plainC = true ∧ m' = ri.length ∧ H'' p = some (.lst (xs.map fun c => .str (S [c]))) ∧ But r H H'' ∧
        RdAt (ad .Reader) H'' r z ri k2 many u res dx ∧ k2 = k + 1 + (esc xs).length, fun _ _ z => z, ?_⟩
      refine ⟨_, rfl, r, dx, _, rfl, g1, rf_following, r, dx, z, _, _, many, u, res, rfl, ⟨g1, g2, g3⟩, ?_⟩
      rw [pre]
      refine ⟨fun σ' H3 => ∃ c2 r2, σ' = [some (.ref r), some (.ref p), some (.str (S [c2]))] ∧ But r H H3 ∧ H3 p = some (.lst (xs.map fun c => .str (S [c]))) ∧ ∃ k3, RdAt (ad .Reader) H3 r z (c2 :: r2) k3 many u res dx ∧ k3 + 1 = k + 1 + (esc (xs ++ [c2])).length ∧ plainC c2 = true ∧ rest = esc (xs ++ [c2]) ++ r2 ∧ r2.length ≤ ri.length, ?_, ?_⟩
      · refine ⟨_, rfl, rfl, _, rfl, ?_⟩
        rw [e92]
        by_cases c92 : c = 92
        · subst c92
          rw [str_eq]
          refine iteT ⟨_, rfl, r, _, dx, _, _, rfl, g1, T.cl, T.aAt, rf_at, _, _, rfl, rfl, dx, _, g1, rf_len, ?_⟩
          rw [show ((k2 : Nat) : Int) + 1 = ((k2 + 1 : Nat) : Int) by omega, rfp_at]
          have R3 : RdAt (ad .Reader) (upd H2 r (.ins (ad .Reader) dx (rf z (k2 + 1) many u res))) r z ri (k2 + 1) many u res dx := ⟨upd_same, drop_tail g2, hz⟩
          have P3 : (upd H2 r (.ins (ad .Reader) dx (rf z (k2 + 1) many u res))) p = some (.lst (xs.map fun c => .str (S [c]))) := by rw [upd_ne npr]; exact hp2
          have B3 : But r H (upd H2 r (.ins (ad .Reader) dx (rf z (k2 + 1) many u res))) := But.trans b2 But.put
          generalize upd H2 r (.ins (ad .Reader) dx (rf z (k2 + 1) many u res)) = H3 at R3 P3 B3
          refine ⟨_, rfl, r, dx, _, rfl, R3.1, rf_following, r, dx, z, _, _, many, u, res, rfl, R3, ?_⟩
          refine ⟨_, rfl, rfl, _, rfl, ?_⟩
          cases ri with
          | nil =>
            rw [show List.take 1 ([] : List Nat) = [] from rfl, str_ne (by intro q; cases q)]
            refine iteT ⟨_, rfl, rfl, _, rfl, ?_⟩
            rw [str_ne (by intro q; cases q)]
            exact iteT (bad 1 H3 (k2 + 1) _ .esc0 rfl B3 R3.1)
          | cons c2 r2 =>
            rw [pre]
            have good : (c2 = 34 ∨ c2 = 92) → ∃ c3 r3, [some (V.ref r), some (V.ref p), some (V.str (S [c2]))] = [some (V.ref r), some (V.ref p), some (V.str (S [c3]))] ∧ But r H H3 ∧ H3 p = some (.lst (xs.map fun c => .str (S [c]))) ∧ ∃ k3, RdAt (ad .Reader) H3 r z (c3 :: r3) k3 many u res dx ∧ k3 + 1 = k + 1 + (esc (xs ++ [c3])).length ∧ plainC c3 = true ∧ rest = esc (xs ++ [c3]) ++ r3 ∧ r3.length ≤ (c2 :: r2).length := fun e => by
              have ee : esc (xs ++ [c2]) = esc xs ++ [92, c2] := by rw [esc_app, esc_two _ e]; rfl
              refine ⟨c2, r2, rfl, B3, P3, k2 + 1, R3, by rw [ee, List.length_append]; show k2 + 1 + 1 = k + 1 + ((esc xs).length + 2); omega, by rcases e with rfl | rfl <;> rfl, by rw [ee, hxy, List.append_assoc]; rfl, Nat.le_succ _⟩
            by_cases d34 : c2 = 34
            · have h := good (.inl d34)
              subst d34
              rw [str_eq]
              exact iteF h
            · rw [str_ne (by intro q; exact d34 (List.cons.inj q).1)]
              refine iteT ⟨_, rfl, rfl, _, rfl, ?_⟩
              by_cases d92 : c2 = 92
              · have h := good (.inr d92)
                subst d92
                rw [str_eq]
                exact iteF h
              · rw [str_ne (by intro q; exact d92 (List.cons.inj q).1)]
                exact iteT (bad 1 H3 (k2 + 1) _ (.esc1 d34 d92) rfl B3 R3.1)
        · rw [str_ne (by intro q; exact c92 (List.cons.inj q).1)]
          refine iteF ⟨_, rfl, .inl ⟨c, rfl, _, rfl, ?_⟩⟩
          cases pc : plainC c with
          | false => exact iteT (bad 0 H2 k2 _ (.odd pc) rfl b2 g1)
          | true =>
            have ee : esc (xs ++ [c]) = esc xs ++ [c] := by rw [esc_app, esc_one _ c34 c92]; rfl
            exact iteF ⟨c, ri, rfl, b2, hp2, k2, ⟨g1, g2, g3⟩, by rw [ee, List.length_append]; show k2 + 1 = k + 1 + ((esc xs).length + 1); omega, pc, by rw [ee, hxy, List.append_assoc]; rfl, Nat.le_refl _⟩
      · rintro σ' H3 ⟨c2, r2, rfl, b3, p3, k3, ⟨f1, f2, f3⟩, hk3, pc2, hr2, rl⟩
        refine ⟨_, rfl, .inl ⟨rfl, _, .inl (.inl p3)⟩, _, rfl, p, _, _, rfl, rfl, p3, by rw [List.length_map]; omega, ?_⟩
        have f1' : (upd H3 p (.lst (xs.map (fun c => V.str (S [c])) ++ [.str (S [c2])]))) r = some (.ins (ad .Reader) dx (rf z k3 many u res)) := by rw [upd_ne npr.symm]; exact f1
        refine ⟨_, rfl, r, _, dx, _, _, rfl, f1', T.cl, T.aAt, rf_at, _, _, rfl, rfl, dx, _, f1', rf_len, ?_⟩
        rw [show ((k3 : Nat) : Int) + 1 = ((k3 + 1 : Nat) : Int) by omega, rfp_at]
        refine ⟨r2.length, by rw [List.length_cons]; omega, xs ++ [c2], r2, k3 + 1, _, rfl, hr2, by rw [List.all_append, hpl, List.all_cons, pc2]; rfl, rfl, ?_, ?_, ⟨upd_same, drop_tail f2, f3⟩, by omega⟩
        · rw [upd_ne npr, upd_same, List.map_append]; rfl
        · exact But.trans (fun b o n e => by rw [upd_ne (ne_of_none e hpH)]; exact b3 b o n e) But.put
end
end TK
namespace TK
open PySem L2
/-! ### a number is read -/
theorem numL_head (n : Nat) : 0 < n → ∃ (d : Nat) (ds : List Nat), TL.numL n = d :: ds ∧ 49 ≤ d ∧ d ≤ 57 := by
  induction n using Nat.strongRecOn with
  | _ n ih =>
    intro h
    by_cases c : n < 10
    · exact ⟨48 + n, [], TL.numL_lt c, by omega, by omega⟩
    · obtain ⟨d, ds, e, h1, h2⟩ := ih (n / 10) (by omega) (by omega)
      exact ⟨d, ds ++ [48 + n % 10], by rw [TL.numL_step (by omega), e]; rfl, h1, h2⟩
/-- no digit is next -/
def NoDig (l : List Nat) : Prop := ∀ c r, l = c :: r → ¬ (48 ≤ c ∧ c ≤ 57)
theorem cut_mid {z ds rest : List Nat} {k p : Nat} (h : z.drop k = ds ++ rest) (e : p = k + ds.length) (hk : k ≤ z.length) : cutS (S z) (some (k : Int)) (some (p : Int)) = S ds := by
  show S _ = S _
  have hl : z.length - k = ds.length + rest.length := by rw [← List.length_drop, h, List.length_append]
  rw [S_inj, S_len, HT.sIx_nat, HT.sIx_nat, Nat.min_eq_left hk, Nat.min_eq_left (by omega), show p - k = ds.length by omega]
  show (z.drop k).take ds.length = ds
  rw [h, List.take_left]
def spRN (C : Addr) : Sp := fun vs H Q _ => ∃ (r dx : Addr) (z l rest : List Nat) (k many : Nat) (u : Addr) (res y : V), vs = [.ref r] ∧ RdAt C H r z (l ++ rest) k many u res dx ∧
  ((l = [45] ∧ y = .non ∧ ∀ c r2, rest = c :: r2 → ¬ (49 ≤ c ∧ c ≤ 57)) ∨ ∃ i : Int, l = intL i ∧ y = .int i ∧ i.natAbs < 10 ^ 100 ∧ (i = 0 ∨ NoDig rest ∨ (TL.numL i.natAbs).length = 100)) ∧ (∀ H', But r H H' → RdAt C H' r z rest (k + l.length) many u res dx → Q y H')
section
variable {P : Program} {w : World} {K : PySem.W.Frag} {mg : Str → Option Value} {base : Heap} {ad : Nm → Addr} {dd : Nm → FuncData}
theorem scRN : FnScope ["self", "begin", "end"] ["self"] (defScope sRN) := ⟨rfl, rfl, rfl, by decide +kernel, rfl, by decide +kernel, by decide +kernel⟩
theorem ok_rn (T : Txt K mg ad dd) : FnOk P w K mg base CX0 2 (ad .RN) (dd .RN) ["self"] (spRN (ad .Reader)) := by
  have GRF := ok_rf (P := P) (w := w) (base := base) T
  refine T.RN.F.ok scRN (fun vs H Q E h => ?_) (fun cdv A outer s H vs Q E hr h => ?_)
  · obtain ⟨r, dx, z, l, rest, k, many, u, res, y, rfl, _⟩ := h
    rfl
  obtain ⟨r, dx, z, l, rest, k, many, u, res, y, rfl, ⟨hr0, hd, hz⟩, hl, q⟩ := h
  refine ⟨_, (pss_cons (ps_set (i := 1) scRN.nd rfl (Or.inl rfl) (pe_fld (pv 0) rfl))
      (Evl.pss_cut (ps_if (pt_cmpR op_eq (pe_meth0 (pv 0) T.cl T.RF.M GRF (hr.mono (by first | decide | omega)) T.RF.b .nil pass0) pe_str (nomark _)) (pss_cons (ps_fldaug (pv 0) pe_int in_add)
      (pss_one (ps_if (pt_not (pt_chain op_le_str op_le_str pe_str (pe_meth0 (pv 0) T.cl T.RF.M GRF (hr.mono (by first | decide | omega)) T.RF.b .nil pass0) pe_str)) (pss_one (ps_ret pe_non)) pss_nil))) (pss_one (ps_if (pt_cmpR op_eq (pe_meth0 (pv 0) T.cl T.RF.M GRF (hr.mono (by first | decide | omega)) T.RF.b .nil pass0) pe_str (nomark _)) (pss_cons (ps_fldaug (pv 0) pe_int in_add)
      (pss_one (ps_ret pe_int))) pss_nil)))
      (pss_cons (ps_set (i := 2) scRN.nd rfl (Or.inl rfl) (pe_op op_add (pe_fld (pv 0) rfl) (pe_gint rfl T.gMOST_DIGITS)))
      (pss_cons (ps_while PassesOwn.never (PW.pt (pw_and (pt_cmpR op_lt (pe_fld (pv 0) rfl) (pv 2) (nomark _)) (pw_and1 (pt_chain op_le_str op_le_str pe_str (pe_meth0 (pv 0) T.cl T.RF.M GRF (hr.mono (by first | decide | omega)) T.RF.b .nil pass0) pe_str)))) (pss_one (ps_fldaug (pv 0) pe_int in_add)))
      (pss_one (ps_ret (pe_callTy call_int_str (by rfl) T.n_int bt_int (pa_cons (pe_slice sl_str (pe_fld (pv 0) rfl) (po_some (pv 1)) (po_some (pe_fld (pv 0) rfl))) pa_nil)))))))), ?_⟩
  refine ⟨_, rfl, r, _, dx, _, _, rfl, hr0, T.cl, T.aAt, rf_at, ?_⟩
  have put : ∀ j, But r H (upd H r (.ins (ad .Reader) dx (rf z j many u res))) := fun j => But.put
  refine ⟨fun σ' H' => ∃ (n : Nat) (i : Int) (p : Nat), σ' = [some (.ref r), some (.int (k : Int)), none] ∧ But r H H' ∧ RdAt (ad .Reader) H' r z (TL.numL n ++ rest) p many u res dx ∧ y = .int i ∧ l = intL i ∧ i.natAbs = n ∧ n < 10 ^ 100 ∧ (NoDig rest ∨ (TL.numL n).length = 100) ∧ p + (TL.numL n).length = k + l.length, ?_, ?_⟩
  · refine ⟨_, rfl, r, dx, _, rfl, hr0, rf_following, r, dx, z, _, _, many, u, res, rfl, ⟨hr0, hd, hz⟩, rfl, _, rfl, ?_⟩
    have neg : ∀ rest', z.drop k = 45 :: rest' → RdAt (ad .Reader) (upd H r (.ins (ad .Reader) dx (rf z (k + 1) many u res))) r z rest' (k + 1) many u res dx := fun rest' e => ⟨upd_same, drop_tail e, hz⟩
    rcases hl with ⟨rfl, rfl, nd⟩ | ⟨i, rfl, rfl, hi, nd⟩
    · rw [e45, show List.take 1 ([45] ++ rest) = [45] from rfl, str_eq]
      refine iteT ⟨_, rfl, r, _, dx, _, _, rfl, hr0, T.cl, T.aAt, rf_at, _, _, rfl, rfl, dx, _, hr0, rf_len, ?_⟩
      rw [show ((k : Nat) : Int) + 1 = ((k + 1 : Nat) : Int) by omega, rfp_at]
      have h2 := neg rest hd
      have fin := q _ (put _) h2
      refine ⟨_, rfl, r, dx, _, rfl, h2.1, rf_following, r, dx, z, _, _, many, u, res, rfl, h2, ?_⟩
      refine ⟨_, _, rfl, rfl, ?_⟩
      rw [e49]
      cases rest with
      | nil =>
        rw [show List.take 1 ([] : List Nat) = [] from rfl, le_ce]
        exact ⟨_, rfl, iteF ⟨_, rfl, iteT fin⟩⟩
      | cons c rs =>
        rw [take1, le_cc]
        refine ⟨_, rfl, ite2 (fun c1 => ⟨_, _, rfl, rfl, _, rfl, ?_⟩) (fun c1 => ⟨_, rfl, iteT fin⟩)⟩
        have c1' := of_decide_eq_true c1
        have c2 := nd c rs rfl
        rw [e57, le_cc, decide_eq_false (show ¬ c ≤ 57 by omega)]
        exact iteT fin
    · cases i with
      | negSucc m =>
        obtain ⟨d, ds, e, d1, d2⟩ := numL_head (m + 1) (Nat.succ_pos m)
        rw [intL_neg] at hd q ⊢
        rw [e45, show List.take 1 ((45 :: TL.numL (m + 1)) ++ rest) = [45] from rfl, str_eq]
        refine iteT ⟨_, rfl, r, _, dx, _, _, rfl, hr0, T.cl, T.aAt, rf_at, _, _, rfl, rfl, dx, _, hr0, rf_len, ?_⟩
        rw [show ((k : Nat) : Int) + 1 = ((k + 1 : Nat) : Int) by omega, rfp_at]
        have h2 := neg (TL.numL (m + 1) ++ rest) hd
        refine ⟨_, rfl, r, dx, _, rfl, h2.1, rf_following, r, dx, z, _, _, many, u, res, rfl, h2, ?_⟩
        refine ⟨_, _, rfl, rfl, ?_⟩
        rw [e49, e, show List.take 1 (d :: ds ++ rest) = [d] from rfl, le_cc, decide_eq_true d1]
        refine ⟨_, rfl, iteT ⟨_, _, rfl, rfl, ?_⟩⟩
        rw [e57, le_cc, decide_eq_true d2]
        refine ⟨_, rfl, iteF ?_⟩
        exact ⟨m + 1, _, k + 1, rfl, put _, h2, rfl, by rw [intL_neg, e], rfl, hi, nd.resolve_left (by intro q; cases q), by rw [e, List.length_cons (a := 45)]; omega⟩
      | ofNat n =>
        have e0 : intL (Int.ofNat n) = TL.numL n := intL_nat n
        by_cases n0 : n = 0
        · subst n0
          have e1 : TL.numL 0 = [48] := TL.numL_lt (by decide)
          rw [e0, e1] at hd q ⊢
          rw [e45, show List.take 1 ([48] ++ rest) = [48] from rfl, str_ne (by decide)]
          refine iteF ⟨_, rfl, r, dx, _, rfl, hr0, rf_following, r, dx, z, _, _, many, u, res, rfl, ⟨hr0, hd, hz⟩, rfl, _, rfl, ?_⟩
          rw [e48, show List.take 1 ([48] ++ rest) = [48] from rfl, str_eq]
          refine iteT ⟨_, rfl, r, _, dx, _, _, rfl, hr0, T.cl, T.aAt, rf_at, _, _, rfl, rfl, dx, _, hr0, rf_len, ?_⟩
          rw [show ((k : Nat) : Int) + 1 = ((k + 1 : Nat) : Int) by omega, rfp_at]
          exact q _ (put _) ⟨upd_same, drop_tail hd, hz⟩
        · obtain ⟨d, ds, e, d1, d2⟩ := numL_head n (by omega)
          have hd' := hd
          rw [e0] at q ⊢
          rw [e0, e] at hd'
          have e45' : List.take 1 (TL.numL n ++ rest) = [d] := by rw [e]; rfl
          rw [e45, e45', str_ne (by intro z; cases z; omega)]
          refine iteF ⟨_, rfl, r, dx, _, rfl, hr0, rf_following, r, dx, z, _, _, many, u, res, rfl, ⟨hr0, hd, hz⟩, rfl, _, rfl, ?_⟩
          rw [e0, e48, e45', str_ne (by intro z; cases z; omega)]
          refine iteF ?_
          exact ⟨n, _, k, rfl, But.refl _ _, ⟨hr0, by rw [← e0]; exact hd, hz⟩, rfl, e0.symm, rfl, hi, nd.resolve_left (by intro q; exact n0 (Int.ofNat.inj q)), rfl⟩
  · rintro σ' H' ⟨n, i, p, rfl, b1, ⟨h1, h2, h3⟩, rfl, rfl, hi, hn, nd, hp⟩
    have nl : (TL.numL n).length ≤ 100 := TL.numL_len (by decide) hn
    have zl : (TL.numL n).length + rest.length = z.length - p := by rw [← List.length_append, ← h2, List.length_drop]
    have zk : (intL i).length + rest.length = z.length - k := by rw [← List.length_append, ← hd, List.length_drop]
    have np : 0 < (TL.numL n).length := by
      cases e : TL.numL n with
      | nil => exact absurd e (TL.numL_ne n)
      | cons a b => exact Nat.succ_pos _
    refine ⟨_, rfl, r, _, dx, _, _, rfl, h1, T.cl, T.aAt, rf_at, _, _, rfl, rfl, ?_⟩
    refine ⟨fun m σ H2 => m ≤ (TL.numL n).length ∧ σ = [some (.ref r), some (.int (k : Int)), some (.int ((p : Int) + 100))] ∧ But r H H2 ∧ RdAt (ad .Reader) H2 r z ((TL.numL n).drop ((TL.numL n).length - m) ++ rest) (p + ((TL.numL n).length - m)) many u res dx,
      ⟨(TL.numL n).length, Nat.le_refl _, rfl, b1, by rw [Nat.sub_self, Nat.add_zero, List.drop_zero]; exact ⟨h1, h2, h3⟩⟩, ?_⟩
    rintro m σ H2 ⟨hm, rfl, b2, ⟨g1, g2, g3⟩⟩
    refine ⟨_, rfl, r, _, dx, _, _, rfl, g1, T.cl, T.aAt, rf_at, _, rfl, _, _, rfl, rfl, _, rfl, ?_⟩
    have at0 : ∀ H3, But r H H3 → RdAt (ad .Reader) H3 r z rest (p + (TL.numL n).length) many u res dx → m = 0 → H3 r = some (.ins (ad .Reader) dx (rf z (k + (intL i).length) many u res)) ∧ Q (.int i) H3 := by
      intro H3 b3 g e
      rw [hp] at g
      exact ⟨g.1, q H3 b3 g⟩
    have it : PySem.intText? (S (intL i)) = some i := by
      have len : (S (intL i)).length ≤ 4300 := by rw [S_len]; have := intL_len (i := i) (by rw [hi]; exact hn); omega
      cases i with
      | ofNat n' =>
        have e : (S (intL (Int.ofNat n'))).cps.toList = TL.numL n' := intL_nat n'
        rw [PySem.intText_digits (by rw [e]; exact TL.numL_digits n') (by rw [e]; exact TL.numL_ne n') len, e, TL.numL_val]
        rfl
      | negSucc m' =>
        have e : (S (intL (Int.negSucc m'))).cps.toList = 45 :: TL.numL (m' + 1) := intL_neg m'
        rw [PySem.intText_neg e (TL.numL_digits (m' + 1)) (TL.numL_ne _) len, TL.numL_val]
        rfl
    have kl : k ≤ z.length := by
      rcases Nat.lt_or_ge k z.length with hh | hh
      · exact Nat.le_of_lt hh
      · rw [show z.length - k = 0 by omega] at zk
        have := np
        omega
    have cm := cut_mid hd rfl kl
    have nl2 := intL_len (i := i) (by rw [hi]; exact hn)
    refine ite2 (fun c1 => ⟨_, rfl, r, dx, _, rfl, g1, rf_following, r, dx, z, _, _, many, u, res, rfl, ⟨g1, g2, g3⟩, _, _, rfl, rfl, ?_⟩) (fun c1 => iteF ?_)
    · rw [e48]
      cases m with
      | zero =>
        rw [Nat.sub_zero] at g1 g2
        rw [List.drop_length, List.nil_append] at g2
        obtain ⟨f1, f2⟩ := at0 H2 b2 ⟨g1, g2, g3⟩ rfl
        have ef : (!decide ((S (List.take 1 ((TL.numL n).drop ((TL.numL n).length - 0) ++ rest))).cps.toList < (S [48]).cps.toList)) = true → (!decide ((S [57]).cps.toList < (S (List.take 1 ((TL.numL n).drop ((TL.numL n).length - 0) ++ rest))).cps.toList)) = false := by
          rw [Nat.sub_zero, List.drop_length, List.nil_append]
          cases rest with
          | nil => rw [show List.take 1 ([] : List Nat) = [] from rfl, le_ce]; intro z; cases z
          | cons c rs =>
            rw [take1, le_cc, le_cc]
            intro z
            have z' := of_decide_eq_true z
            have c1' := of_decide_eq_true c1
            rcases nd with nd | nd
            · have := nd c rs rfl
              exact decide_eq_false (by omega)
            · omega
        refine ⟨_, rfl, ite2 (fun c2 => ⟨_, _, rfl, rfl, ?_⟩) (fun c2 => ⟨_, rfl, iteF ?_⟩)⟩
        · rw [e57, ef c2]
          refine ⟨_, rfl, iteF ?_⟩
          refine ⟨_, rfl, r, _, dx, _, _, rfl, f1, T.cl, T.aText, rf_text, _, rfl, _, rfl, _, rfl, r, _, dx, _, _, rfl, f1, T.cl, T.aAt, rf_at, _, rfl, S z, rfl, by rw [S_len]; exact g3, ?_⟩
          rw [cm]
          exact ⟨_, _, rfl, it, by rw [S_len]; omega, f2⟩
        · refine ⟨_, rfl, r, _, dx, _, _, rfl, f1, T.cl, T.aText, rf_text, _, rfl, _, rfl, _, rfl, r, _, dx, _, _, rfl, f1, T.cl, T.aAt, rf_at, _, rfl, S z, rfl, by rw [S_len]; exact g3, ?_⟩
          rw [cm]
          exact ⟨_, _, rfl, it, by rw [S_len]; omega, f2⟩
      | succ m =>
        have hlt : (TL.numL n).length - (m + 1) < (TL.numL n).length := by omega
        have hdl : (TL.numL n).drop ((TL.numL n).length - (m + 1)) = (TL.numL n)[(TL.numL n).length - (m + 1)] :: (TL.numL n).drop ((TL.numL n).length - m) := by
          rw [List.drop_eq_getElem_cons hlt, show (TL.numL n).length - (m + 1) + 1 = (TL.numL n).length - m by omega]
        have hdg := TL.numL_digits n _ (List.getElem_mem hlt)
        generalize (TL.numL n)[(TL.numL n).length - (m + 1)] = c at hdl hdg
        rw [hdl] at g2
        rw [hdl, show List.take 1 (c :: (TL.numL n).drop ((TL.numL n).length - m) ++ rest) = [c] from rfl, le_cc, decide_eq_true hdg.1]
        refine ⟨_, rfl, iteT ⟨_, _, rfl, rfl, ?_⟩⟩
        rw [e57, le_cc, decide_eq_true hdg.2]
        refine ⟨_, rfl, iteT ?_⟩
        refine ⟨fun σ' H'' => ∃ m', m' < m + 1 ∧ m' ≤ (TL.numL n).length ∧ σ' = [some (.ref r), some (.int (k : Int)), some (.int ((p : Int) + 100))] ∧ But r H H'' ∧ RdAt (ad .Reader) H'' r z ((TL.numL n).drop ((TL.numL n).length - m') ++ rest) (p + ((TL.numL n).length - m')) many u res dx, fun _ _ z => z, ?_⟩
        refine ⟨_, rfl, r, _, dx, _, _, rfl, g1, T.cl, T.aAt, rf_at, _, _, rfl, rfl, dx, _, g1, rf_len, ?_⟩
        rw [show ((p + ((TL.numL n).length - (m + 1)) : Nat) : Int) + 1 = ((p + ((TL.numL n).length - m) : Nat) : Int) by omega, rfp_at]
        refine ⟨m, Nat.lt_succ_self m, by omega, rfl, But.trans b2 But.put, upd_same, ?_, g3⟩
        rw [show p + ((TL.numL n).length - m) = p + ((TL.numL n).length - (m + 1)) + 1 by omega]
        exact drop_tail g2
    · have c1' := of_decide_eq_false (Bool.eq_false_iff.mpr c1)
      have m0 : m = 0 := by omega
      subst m0
      rw [Nat.sub_zero] at g1 g2
      rw [List.drop_length, List.nil_append] at g2
      obtain ⟨f1, f2⟩ := at0 H2 b2 ⟨g1, g2, g3⟩ rfl
      refine ⟨_, rfl, r, _, dx, _, _, rfl, f1, T.cl, T.aText, rf_text, _, rfl, _, rfl, _, rfl, r, _, dx, _, _, rfl, f1, T.cl, T.aAt, rf_at, _, rfl, S z, rfl, by rw [S_len]; exact g3, ?_⟩
      rw [cm]
      exact ⟨_, _, rfl, it, by rw [S_len]; omega, f2⟩
end
end TK
namespace TK
open PySem L2
/-! ### where a number ends -/
theorem numL_of : ∀ (m : Nat) (d : Nat) (ds : List Nat), ds.length = m → 49 ≤ d → d ≤ 57 → (∀ c ∈ ds, 48 ≤ c ∧ c ≤ 57) → ∃ n, 0 < n ∧ TL.numL n = d :: ds
  | 0, d, ds, hl, h1, h2, _ => by
    have e : ds = [] := List.eq_nil_of_length_eq_zero hl
    subst e
    exact ⟨d - 48, by omega, by rw [TL.numL_lt (by omega)]; congr 1; omega⟩
  | m + 1, d, ds, hl, h1, h2, h3 => by
    rcases List.eq_nil_or_concat ds with e | ⟨ds', e, hd⟩
    · subst e; cases hl
    · rw [List.concat_eq_append] at hd
      subst hd
      rw [List.length_append] at hl
      obtain ⟨n, hn, en⟩ := numL_of m d ds' (by simpa using hl) h1 h2 fun c hc => h3 c (List.mem_append_left _ hc)
      have he := h3 e (List.mem_append_right _ List.mem_cons_self)
      refine ⟨10 * n + (e - 48), by omega, ?_⟩
      rw [TL.numL_step (by omega), show (10 * n + (e - 48)) / 10 = n by omega, show (10 * n + (e - 48)) % 10 = e - 48 by omega, en, show 48 + (e - 48) = e by omega]
      rfl
theorem numL_lt_pow (n : Nat) : n < 10 ^ (TL.numL n).length := by
  induction n using Nat.strongRecOn with
  | _ n ih =>
    by_cases c : n < 10
    · rw [TL.numL_lt c]; simpa using c
    · have h := ih (n / 10) (by omega)
      rw [TL.numL_step (by omega), List.length_append, List.length_singleton, Nat.pow_succ]
      omega
def fineMd : Md → Bool
  | .fin => true
  | .minus => true
  | .digs _ => true
  | _ => false
/-- a part has ended: the next sign is one behind a part -/
def Endl (s : Sta) (rest : List Nat) : Prop := fineMd s.md = true ∧ ∀ c r, rest = c :: r → stp s c = beh s.op s.pa c
theorem beh_dig {o p c : Nat} (h1 : 48 ≤ c) : beh o p c = none := by
  unfold beh
  rw [if_neg (by omega), if_neg (by omega)]
theorem digs_run {z : List Nat} {o p : Nat} : ∀ (R : List Nat) (k r : Nat), Due z k ⟨.digs r, o, p⟩ R →
    ∃ ds rest, R = ds ++ rest ∧ (∀ c ∈ ds, 48 ≤ c ∧ c ≤ 57) ∧ ds.length ≤ r ∧ Due z (k + ds.length) ⟨.digs (r - ds.length), o, p⟩ rest ∧ (NoDig rest ∨ ds.length = r)
  | [], k, r, d => ⟨[], [], rfl, (fun c h => by cases h), Nat.zero_le _, d, .inl fun c r h => by cases h⟩
  | c :: R, k, r, d => by
    by_cases hc : 48 ≤ c ∧ c ≤ 57
    · cases r with
      | zero => exact ⟨[], c :: R, rfl, (fun c h => by cases h), Nat.le_refl _, d, .inr rfl⟩
      | succ r =>
        have hs : stp ⟨.digs (r + 1), o, p⟩ c = some ⟨.digs r, o, p⟩ := by
          show (if 48 ≤ c ∧ c ≤ 57 then (if r + 1 = 0 then none else some (⟨.digs (r + 1 - 1), o, p⟩ : Sta)) else _) = _
          rw [if_pos hc, if_neg (by omega)]; rfl
        obtain ⟨ds, rest, e, h1, h2, h3, h4⟩ := digs_run R (k + 1) r (d.on hs)
        refine ⟨c :: ds, rest, by rw [e]; rfl, fun x hx => ?_, by rw [List.length_cons]; omega, ?_, ?_⟩
        · rcases List.mem_cons.mp hx with e | hx
          · rw [e]; exact hc
          · exact h1 x hx
        · rw [List.length_cons, show k + (ds.length + 1) = k + 1 + ds.length by omega, show r + 1 - (ds.length + 1) = r - ds.length by omega]
          exact h3
        · rw [List.length_cons]
          exact h4.imp id (by omega)
    · exact ⟨[], c :: R, rfl, (fun c h => by cases h), Nat.zero_le _, d, .inl fun c' r' h => by cases h; exact hc⟩
theorem digs_end {r o p : Nat} {rest : List Nat} (h : NoDig rest ∨ r = 0) : Endl ⟨.digs r, o, p⟩ rest := by
  refine ⟨rfl, fun c l e => ?_⟩
  show (if 48 ≤ c ∧ c ≤ 57 then (if r = 0 then none else some (⟨.digs (r - 1), o, p⟩ : Sta)) else beh o p c) = beh o p c
  by_cases hc : 48 ≤ c ∧ c ≤ 57
  · rw [if_pos hc]
    rcases h with h | h
    · exact absurd hc (h c l e)
    · rw [if_pos h, beh_dig hc.1]
  · rw [if_neg hc]
/-- the number at the reader -/
theorem num_due {z : List Nat} {k c o p : Nat} {s0 : Sta} {m : Md} {r0 : List Nat} (d : Due z k s0 (c :: r0)) (hb : begMd c = some m) (hs : stp s0 c = some ⟨m, o, p⟩) (hc : c = 45 ∨ (48 ≤ c ∧ c ≤ 57)) :
    ∃ (l rest : List Nat) (y : PyData) (s' : Sta), c :: r0 = l ++ rest ∧ l = wr y ∧ l ≠ [] ∧
      ((l = [45] ∧ y = .none ∧ ∀ c r2, rest = c :: r2 → ¬ (49 ≤ c ∧ c ≤ 57)) ∨ ∃ i : Int, l = intL i ∧ y = .int i ∧ i.natAbs < 10 ^ 100 ∧ (i = 0 ∨ NoDig rest ∨ (TL.numL i.natAbs).length = 100)) ∧
      s'.op = o ∧ s'.pa = p ∧ Endl s' rest ∧ Due z (k + l.length) s' rest := by
  have d1 := d.on hs
  -- digits from d on, the state behind it
  have go : ∀ (x : Nat) (R : List Nat) (k1 : Nat), 49 ≤ x → x ≤ 57 → Due z k1 ⟨.digs 99, o, p⟩ R → ∃ (n : Nat) (rest : List Nat) (s' : Sta), 0 < n ∧ x :: R = TL.numL n ++ rest ∧ n < 10 ^ 100 ∧ (NoDig rest ∨ (TL.numL n).length = 100) ∧
      s'.op = o ∧ s'.pa = p ∧ Endl s' rest ∧ Due z (k1 + ((TL.numL n).length - 1)) s' rest := by
    intro x R k1 h1 h2 dd
    obtain ⟨ds, rest, e, a1, a2, a3, a4⟩ := digs_run R k1 99 dd
    obtain ⟨n, hn, en⟩ := numL_of ds.length x ds rfl h1 h2 a1
    have hl : (TL.numL n).length = ds.length + 1 := by rw [en, List.length_cons]
    refine ⟨n, rest, _, hn, by rw [en, e]; rfl, ?_, a4.imp id (by omega), rfl, rfl, digs_end (r := 99 - ds.length) (a4.imp id (by omega)), by rw [hl]; exact a3⟩
    refine Nat.lt_of_lt_of_le (numL_lt_pow n) (Nat.pow_le_pow_right (by decide) (by omega))
  rcases hc with rfl | hc
  · have em : m = .minus := (Option.some.inj (hb.symm.trans (by rfl))).symm ▸ rfl
    subst em
    by_cases hx : ∃ x R, r0 = x :: R ∧ 49 ≤ x ∧ x ≤ 57
    · obtain ⟨x, R, rfl, x1, x2⟩ := hx
      have hs2 : stp ⟨.minus, o, p⟩ x = some ⟨.digs 99, o, p⟩ := by
        show (if 49 ≤ x ∧ x ≤ 57 then _ else _) = _
        rw [if_pos ⟨x1, x2⟩]
      obtain ⟨n, rest, s', hn, e, h1, h2, h3, h4, h5, h6⟩ := go x R (k + 1 + 1) x1 x2 (d1.on hs2)
      obtain ⟨n', rfl⟩ : ∃ n', n = n' + 1 := ⟨n - 1, by omega⟩
      have hnl : 0 < (TL.numL (n' + 1)).length := by
        cases e : TL.numL (n' + 1) with
        | nil => exact absurd e (TL.numL_ne _)
        | cons a b => exact Nat.succ_pos _
      refine ⟨45 :: TL.numL (n' + 1), rest, .int (Int.negSucc n'), s', by rw [e]; rfl, (intL_neg n').symm, (by intro q; cases q), .inr ⟨_, (intL_neg n').symm, rfl, h1, .inr h2⟩, h3, h4, h5, ?_⟩
      rw [List.length_cons, show k + ((TL.numL (n' + 1)).length + 1) = k + 1 + 1 + ((TL.numL (n' + 1)).length - 1) by omega]
      exact h6
    · have nx : ∀ c r2, r0 = c :: r2 → ¬ (49 ≤ c ∧ c ≤ 57) := fun c r2 e q => hx ⟨c, r2, e, q.1, q.2⟩
      refine ⟨[45], r0, .none, ⟨.minus, o, p⟩, rfl, rfl, (by intro q; cases q), .inl ⟨rfl, rfl, nx⟩, rfl, rfl, ⟨rfl, fun c r e => ?_⟩, d1⟩
      show (if 49 ≤ c ∧ c ≤ 57 then _ else beh o p c) = beh o p c
      rw [if_neg (nx c r e)]
  · by_cases h0 : c = 48
    · subst h0
      have em : m = .fin := (Option.some.inj (hb.symm.trans (by rfl))).symm ▸ rfl
      subst em
      have e1 : intL 0 = [48] := (intL_nat 0).trans (TL.numL_lt (by decide))
      exact ⟨[48], r0, .int 0, ⟨.fin, o, p⟩, rfl, e1.symm, (by intro q; cases q), .inr ⟨0, e1.symm, rfl, by decide, .inl rfl⟩, rfl, rfl, ⟨rfl, fun c r e => rfl⟩, d1⟩
    · have em : begMd c = some (.digs 99) := by
        unfold begMd
        rw [if_neg (by omega), if_neg (by omega), if_neg (by omega), if_neg (by omega), if_neg (by omega), if_neg (by omega), if_pos (by omega)]
      have em2 : m = .digs 99 := Option.some.inj (hb.symm.trans em)
      subst em2
      obtain ⟨n, rest, s', hn, e, h1, h2, h3, h4, h5, h6⟩ := go c r0 (k + 1) (by omega) hc.2 d1
      have hnl : 0 < (TL.numL n).length := by
        cases e : TL.numL n with
        | nil => exact absurd e (TL.numL_ne _)
        | cons a b => exact Nat.succ_pos _
      refine ⟨TL.numL n, rest, .int (n : Int), s', e, (intL_nat n).symm, TL.numL_ne n, .inr ⟨n, (intL_nat n).symm, rfl, h1, .inr h2⟩, h3, h4, h5, ?_⟩
      rw [show k + (TL.numL n).length = k + 1 + ((TL.numL n).length - 1) by omega]
      exact h6
end TK
namespace TK
open PySem L2
/-! ### what is open: the parts that are done, the innermost first -/
abbrev Frs := List (List PyData)
mutual
/-- a tree whose integers are short -/
def gx : PyData → Bool
  | .none => true
  | .bool _ => true
  | .int i => decide (i.natAbs < 10 ^ 100)
  | .str _ => true
  | .tuple ts => gxs ts
  | .list _ => false
  | .dict _ => false
def gxs : List PyData → Bool
  | [] => true
  | t :: ts => gx t && gxs ts
end
theorem gxs_snoc : ∀ (ts : List PyData) (t : PyData), gxs (ts ++ [t]) = (gxs ts && gx t)
  | [], t => by
    show (gx t && true) = (true && gx t)
    rw [Bool.and_true, Bool.true_and]
  | u :: ts, t => by
    show (gx u && gxs (ts ++ [t])) = (gx u && gxs ts && gx t)
    rw [gxs_snoc ts t, Bool.and_assoc]
/-- the text ahead of a part that begins -/
def preB : Frs → List Nat
  | [] => []
  | ds :: fs => preB fs ++ 40 :: (if ds.isEmpty then [] else TL.joinL [32] (wrs ds) ++ [32])
/-- the text up to here, within the innermost tuple -/
def preE : List PyData → Frs → List Nat := fun ds fs => preB fs ++ 40 :: TL.joinL [32] (wrs ds)
theorem wrs_app : ∀ a b : List PyData, wrs (a ++ b) = wrs a ++ wrs b
  | [], b => rfl
  | t :: a, b => by
    show wr t :: wrs (a ++ b) = _
    rw [wrs_app a b]; rfl
theorem join_snoc : ∀ (ls : List (List Nat)) (p : List Nat), TL.joinL [32] (ls ++ [p]) = (if ls.isEmpty then [] else TL.joinL [32] ls ++ [32]) ++ p
  | [], p => rfl
  | [q], p => by
    show q ++ ([32] ++ p) = (q ++ [32]) ++ p
    rw [List.append_assoc]
  | q :: q2 :: ls, p => by
    have ih := join_snoc (q2 :: ls) p
    show q ++ ([32] ++ TL.joinL [32] ((q2 :: ls) ++ [p])) = ((q ++ ([32] ++ TL.joinL [32] (q2 :: ls))) ++ [32]) ++ p
    rw [ih, if_neg (show ¬ ((q2 :: ls).isEmpty = true) from fun z => by cases z)]
    simp only [List.append_assoc]
theorem wrs_empty (ds : List PyData) : (wrs ds).isEmpty = ds.isEmpty := by cases ds <;> rfl
theorem preE_snoc (ds : List PyData) (t : PyData) (fs : Frs) : preE (ds ++ [t]) fs = preB (ds :: fs) ++ wr t := by
  show preB fs ++ 40 :: TL.joinL [32] (wrs (ds ++ [t])) = (preB fs ++ 40 :: (if ds.isEmpty then [] else TL.joinL [32] (wrs ds) ++ [32])) ++ wr t
  rw [wrs_app, show wrs [t] = [wr t] from rfl, join_snoc, wrs_empty, List.append_assoc]
  rfl
theorem preE_close (ds : List PyData) (fs : Frs) : preE ds fs ++ [41] = preB fs ++ wr (.tuple ds) := by
  show (preB fs ++ 40 :: TL.joinL [32] (wrs ds)) ++ [41] = preB fs ++ ([40] ++ TL.joinL [32] (wrs ds) ++ [41])
  rw [List.append_assoc]
  rfl
theorem preE_next (ds : List PyData) (h : ds ≠ []) (fs : Frs) : preE ds fs ++ [32] = preB (ds :: fs) := by
  have e : ds.isEmpty = false := by cases ds with | nil => exact absurd rfl h | cons _ _ => rfl
  show (preB fs ++ 40 :: TL.joinL [32] (wrs ds)) ++ [32] = preB fs ++ 40 :: (if ds.isEmpty then [] else TL.joinL [32] (wrs ds) ++ [32])
  rw [e, if_neg (by decide), List.append_assoc]
  rfl
theorem preE_new (fs : Frs) : preE [] fs = preB ([] :: fs) := rfl
def okD : Frs → Prop
  | [] => True
  | ds :: fs => gxs ds = true ∧ dps ds + (fs.length + 1) ≤ 30 ∧ okD fs
/-- the lists of what is done -/
inductive FrAt (H0 H : Hp) (u : Addr) : List Addr → Frs → Prop
  | nil : FrAt H0 H u [] []
  | cons {l : Addr} {ls : List Addr} {vs : List V} {ds : List PyData} {fs : Frs} : l ∉ ls → l ≠ u → H0 l = none → H l = some (.lst vs) → TrAll H vs ds → FrAt H0 H u ls fs → FrAt H0 H u (l :: ls) (ds :: fs)
theorem FrAt.len {H0 H : Hp} {u : Addr} : ∀ {ls : List Addr} {fs : Frs}, FrAt H0 H u ls fs → ls.length = fs.length
  | _, _, .nil => rfl
  | _, _, .cons _ _ _ _ _ h => congrArg (· + 1) (FrAt.len h)
theorem FrAt.lst {H0 H : Hp} {u a : Addr} : ∀ {ls : List Addr} {fs : Frs}, FrAt H0 H u ls fs → a ∈ ls → (∃ vs, H a = some (.lst vs)) ∧ a ≠ u
  | _, _, .nil, h => by cases h
  | _, _, .cons _ h2 _ h1 _ h, m => by
    rcases List.mem_cons.mp m with e | m
    · rw [e]; exact ⟨⟨_, h1⟩, h2⟩
    · exact FrAt.lst h m
theorem FrAt.keep {H0 H H' : Hp} {u : Addr} (s : Tups H H') : ∀ {ls : List Addr} {fs : Frs}, (∀ l ∈ ls, ∀ vs, H l = some (.lst vs) → H' l = some (.lst vs)) → FrAt H0 H u ls fs → FrAt H0 H' u ls fs
  | _, _, _, .nil => .nil
  | _, _, k, .cons h1 h2 h3 h4 h5 h6 => .cons h1 h2 h3 (k _ List.mem_cons_self _ h4) (TrAll.keep s _ _ h5) (FrAt.keep s (fun l m vs e => k l (List.mem_cons_of_mem _ m) vs e) h6)
theorem FrAt.same {H0 H H' : Hp} {u : Addr} {ls : List Addr} {fs : Frs} (s : Same H H') (h : FrAt H0 H u ls fs) : FrAt H0 H' u ls fs := h.keep (Tups.of_same s) fun _ _ _ e => s _ _ e
theorem tups_but {H H' : Hp} {r C dx : Addr} {fl : List (Str × V)} (b : But r H H') (h : H r = some (.ins C dx fl)) : Tups H H' := fun a xs e => b a _ (ne_of e h (by intro q; cases q)) e
theorem FrAt.but {H0 H H' : Hp} {u r C dx : Addr} {fl : List (Str × V)} {ls : List Addr} {fs : Frs} (b : But r H H') (h : H r = some (.ins C dx fl)) (q : FrAt H0 H u ls fs) : FrAt H0 H' u ls fs :=
  q.keep (tups_but b h) fun l _ vs e => b l _ (ne_of e h (by intro q; cases q)) e
/-- the reader between two parts -/
structure RIn (C : Addr) (H0 H : Hp) (r u : Addr) (z rest : List Nat) (fs : Frs) (k many : Nat) (res : V) (dx : Addr) (ls : List Addr) : Prop where
  rd : RdAt C H r z rest k many u res dx
  r0 : H0 r = none
  u0 : H0 u = none
  sm : Same H0 H
  un : H u = some (.lst (ls.map V.ref).reverse)
  fr : FrAt H0 H u ls fs
  ok : okD fs
theorem RIn.but {C : Addr} {H0 H H' : Hp} {r u : Addr} {z rest rest' : List Nat} {fs : Frs} {k many k' many' : Nat} {res res' : V} {dx : Addr} {ls : List Addr} (I : RIn C H0 H r u z rest fs k many res dx ls) (b : But r H H')
    (g : RdAt C H' r z rest' k' many' u res' dx) : RIn C H0 H' r u z rest' fs k' many' res' dx ls :=
  ⟨g, I.r0, I.u0, fun a o e => b a o (ne_of_none e I.r0) (I.sm _ _ e), b _ _ (ne_of I.un I.rd.1 (by intro q; cases q)) I.un, I.fr.but b I.rd.1, I.ok⟩
theorem RIn.keep {C : Addr} {H0 H H' : Hp} {r u : Addr} {z rest : List Nat} {fs : Frs} {k many : Nat} {res : V} {dx : Addr} {ls : List Addr} (I : RIn C H0 H r u z rest fs k many res dx ls) (s : Same H H') :
    RIn C H0 H' r u z rest fs k many res dx ls :=
  ⟨⟨s _ _ I.rd.1, I.rd.2⟩, I.r0, I.u0, fun a o e => s _ _ (I.sm _ _ e), s _ _ I.un, I.fr.same s, I.ok⟩
theorem RIn.away {C : Addr} {H0 H H' : Hp} {r u : Addr} {z rest : List Nat} {fs : Frs} {k many : Nat} {res : V} {dx : Addr} {ls : List Addr} (I : RIn C H0 H r u z rest fs k many res dx ls) (b : But r H H') : Same H0 H' :=
  fun a o e => b a o (ne_of_none e I.r0) (I.sm _ _ e)
/-- the walk's state fits: so many brackets are open, so many parts were begun -/
structure Fit (z rest : List Nat) (fs : Frs) (k many : Nat) (s : Sta) : Prop where
  du : Due z k s rest
  op : s.op = fs.length
  pa : s.pa = many
  le : many ≤ 2000
/-- what was read -/
def Read (H : Hp) (res : V) (z rest : List Nat) (s : Sta) : Frs → Prop
  | [] => ∃ T : PyData, Tr H res T ∧ gx T = true ∧ dp T ≤ 30 ∧ z = wr T ++ rest ∧ Endl s rest
  | ds :: fs => z = preE ds fs ++ rest ∧ (ds = [] → s.md = .first) ∧ (ds ≠ [] → Endl s rest)
def RSt (C : Addr) (H0 H : Hp) (r u : Addr) (z rest : List Nat) (fs : Frs) : Prop := ∃ (k many : Nat) (res : V) (dx : Addr) (ls : List Addr) (s : Sta), RIn C H0 H r u z rest fs k many res dx ls ∧ Fit z rest fs k many s ∧ Read H res z rest s fs
def RPre (C : Addr) (H0 H : Hp) (r u : Addr) (z rest : List Nat) (fs : Frs) : Prop := ∃ (k many : Nat) (res : V) (dx : Addr) (ls : List Addr) (s : Sta), RIn C H0 H r u z rest fs k many res dx ls ∧ Fit z rest fs k many s ∧ z = preB fs ++ rest ∧
  (s.md = .part ∨ (s.md = .first ∧ ∀ c l, rest = c :: l → c ≠ 41)) ∧ fs.length ≤ 30
theorem wr_ne : ∀ t : PyData, gx t = true → wr t ≠ []
  | .tuple ts, _ => fun e => by cases e
  | .str x, _ => fun e => by cases e
  | .bool true, _ => fun e => by cases e
  | .bool false, _ => fun e => by cases e
  | .none, _ => fun e => by cases e
  | .int i, _ => fun e => by
    cases i with
    | negSucc m =>
      have := (intL_neg m).symm.trans e
      cases this
    | ofNat n => exact TL.numL_ne n ((intL_nat n).symm.trans e)
  | .list _, h => by cases h
  | .dict _, h => by cases h
theorem join_ge : ∀ ds : List PyData, gxs ds = true → ds.length ≤ (TL.joinL [32] (wrs ds)).length
  | [], _ => Nat.le_refl _
  | [t], h => by
    have h' : (gx t && true) = true := h
    rw [Bool.and_true] at h'
    have := List.length_pos_iff.mpr (wr_ne t h')
    show 1 ≤ (wr t).length
    omega
  | t :: u :: ds, h => by
    have h' : (gx t && gxs (u :: ds)) = true := h
    rw [Bool.and_eq_true] at h'
    have ih := join_ge (u :: ds) h'.2
    show (u :: ds).length + 1 ≤ (wr t ++ ([32] ++ TL.joinL [32] (wrs (u :: ds)))).length
    rw [List.length_append, List.length_append, List.length_singleton]
    omega
/-- the tree y of the value v is put into the innermost list, or it is the tree -/
theorem put_end {C : Addr} {H0 H : Hp} {r u : Addr} {z rest : List Nat} {t : PyData} {fs : Frs} {k many : Nat} {res y : V} {dx : Addr} {ls : List Addr} {s : Sta} (I : RIn C H0 H r u z rest fs k many res dx ls) (F : Fit z rest fs k many s) (ht : Tr H y t) (hg : gx t = true)
    (hd : dp t + fs.length ≤ 30) (hz : z = preB fs ++ wr t ++ rest) (en : Endl s rest) {Q : VK} (q : ∀ (H' : Hp) (fs' : Frs), RSt C H0 H' r u z rest fs' → Q .non H') :
    ∃ us, H u = some (.lst us) ∧ ((us = [] ∧ Q .non (upd H r (.ins C dx (rf z k many u y)))) ∨ ∃ (vs' : List V) (l : Addr) (xs : List V), us = vs' ++ [.ref l] ∧ H l = some (.lst xs) ∧ xs.length < sizeLine ∧ Q .non (upd H l (.lst (xs ++ [y])))) := by
  refine ⟨_, I.un, ?_⟩
  cases fs with
  | nil =>
    have hl := I.fr
    cases hl
    refine .inl ⟨rfl, q _ [] ⟨k, many, y, dx, [], s, I.but But.put ⟨upd_same, I.rd.2⟩, F, t, Tr.keep (tups_but But.put I.rd.1) _ _ ht, hg, hd, hz, en⟩⟩
  | cons ds fs =>
    have hf := I.fr
    cases hf with
    | @cons l ls vs _ _ h1 h2 h3 h4 h5 h6 =>
    have e1 := TrAll.length h5
    have e2 := join_ge ds I.ok.1
    have e3 : ds.length + 1 ≤ (preB (ds :: fs)).length := by
      show _ ≤ (preB fs ++ 40 :: (if ds.isEmpty then [] else TL.joinL [32] (wrs ds) ++ [32])).length
      rw [List.length_append, List.length_cons]
      cases ds with
      | nil => show 0 + 1 ≤ _; omega
      | cons d ds =>
        rw [if_neg (show ¬ ((d :: ds).isEmpty = true) from fun z => by cases z), List.length_append]
        omega
    have e4 : (preB (ds :: fs)).length ≤ z.length := by rw [hz, List.length_append, List.length_append]; omega
    have e5 := I.rd.2.2
    refine .inr ⟨(ls.map V.ref).reverse, l, vs, by rw [List.map_cons, List.reverse_cons], h4, by omega, ?_⟩
    have tk : Tups H (upd H l (.lst (vs ++ [y]))) := tups_lst h4
    have nr : r ≠ l := ne_of I.rd.1 h4 (by intro q; cases q)
    obtain ⟨o1, o2, o3⟩ := I.ok
    refine q _ ((ds ++ [t]) :: fs) ⟨k, many, res, dx, l :: ls, s, ⟨?_, I.r0, I.u0, fun a o e => by rw [upd_ne (ne_of_none e h3)]; exact I.sm _ _ e, by rw [upd_ne h2.symm]; exact I.un, ?_, ?_⟩, ⟨F.du, F.op, F.pa, F.le⟩, ?_, ?_, fun _ => en⟩
    · exact ⟨by rw [upd_ne nr]; exact I.rd.1, I.rd.2⟩
    · refine .cons h1 h2 h3 upd_same (TrAll.snoc (Tr.keep tk _ _ ht) (TrAll.keep tk _ _ h5)) (h6.keep tk fun a m ws e => ?_)
      rw [upd_ne (fun z => h1 (by rw [← z]; exact m))]
      exact e
    · refine ⟨by rw [gxs_snoc, o1, hg]; rfl, ?_, o3⟩
      rw [dps_snoc]
      have hd' : dp t + (fs.length + 1) ≤ 30 := hd
      omega
    · rw [preE_snoc]; exact hz
    · intro e
      have := congrArg List.length e
      rw [List.length_append] at this
      cases this
/-- a list more is open -/
theorem put_open {C : Addr} {H0 H : Hp} {r u : Addr} {z rest : List Nat} {fs : Frs} {k many : Nat} {res : V} {dx : Addr} {ls : List Addr} {s : Sta} (I : RIn C H0 H r u z rest fs k many res dx ls) (F : Fit z rest ([] :: fs) k many s)
    (hd : fs.length + 1 ≤ 30) (hz : z = preE [] fs ++ rest) (hs : s.md = .first) {l : Addr} (hl : H l = none) : RSt C H0 (upd (upd H l (.lst [])) u (.lst ((ls.map V.ref).reverse ++ [.ref l]))) r u z rest ([] :: fs) := by
  have s1 := same_new hl (.lst [])
  have I1 := I.keep s1
  have L1 : (upd H l (.lst [])) l = some (.lst []) := upd_same
  have nlu : l ≠ u := (ne_of_none I.un hl).symm
  have nls : l ∉ ls := fun m => by
    obtain ⟨⟨vs, e⟩, _⟩ := I.fr.lst m
    rw [hl] at e; cases e
  have h0 : H0 l = none := I.sm.free hl
  generalize upd H l (.lst []) = H1 at s1 I1 L1
  have tk : Tups H1 (upd H1 u (.lst ((ls.map V.ref).reverse ++ [.ref l]))) := tups_lst I1.un
  have nru : r ≠ u := ne_of I1.rd.1 I1.un (by intro q; cases q)
  refine ⟨k, many, res, dx, l :: ls, s, ⟨⟨by rw [upd_ne nru]; exact I1.rd.1, I1.rd.2⟩, I.r0, I.u0, fun a o e => by rw [upd_ne (ne_of_none e I.u0)]; exact I1.sm _ _ e, ?_, ?_, ⟨rfl, by show 0 + (fs.length + 1) ≤ 30; omega, I.ok⟩⟩, F, hz, fun _ => hs, fun e => absurd rfl e⟩
  · rw [upd_same, List.map_cons, List.reverse_cons]
  · refine .cons nls nlu h0 (by rw [upd_ne nlu]; exact L1) .nil (I1.fr.keep tk fun a m vs e => ?_)
    rw [upd_ne (I1.fr.lst m).2]
    exact e
theorem RIn.pop {C : Addr} {H0 H : Hp} {r u : Addr} {z rest : List Nat} {ds : List PyData} {fs : Frs} {k many : Nat} {res : V} {dx l : Addr} {ls : List Addr} (I : RIn C H0 H r u z rest (ds :: fs) k many res dx (l :: ls)) :
    RIn C H0 (upd H u (.lst (ls.map V.ref).reverse)) r u z rest fs k many res dx ls := by
  have nru : r ≠ u := ne_of I.rd.1 I.un (by intro q; cases q)
  have tk : Tups H (upd H u (.lst (ls.map V.ref).reverse)) := tups_lst I.un
  have hf := I.fr
  cases hf with
  | cons h1 h2 h3 h4 h5 h6 =>
  exact ⟨⟨by rw [upd_ne nru]; exact I.rd.1, I.rd.2⟩, I.r0, I.u0, fun a o e => by rw [upd_ne (ne_of_none e I.u0)]; exact I.sm _ _ e, upd_same, h6.keep tk fun a m vs e => by rw [upd_ne (h6.lst m).2]; exact e, I.ok.2.2⟩
end TK
namespace TK
open PySem L2
/-! ### a part is begun -/
theorem str_due {z : List Nat} {o p : Nat} {rest : List Nat} : ∀ (x : List Nat) (k : Nat), x.all plainC = true → Due z k ⟨.str, o, p⟩ (esc x ++ 34 :: rest) → Due z (k + ((esc x).length + 1)) ⟨.fin, o, p⟩ rest
  | [], k, _, d => d.on rfl
  | c :: x, k, h, d => by
    rw [List.all_cons, Bool.and_eq_true] at h
    by_cases e : c = 34 ∨ c = 92
    · rw [esc_two _ e] at d ⊢
      have s1 : stp ⟨.str, o, p⟩ 92 = some ⟨.esc, o, p⟩ := rfl
      have s2 : stp ⟨.esc, o, p⟩ c = some ⟨.str, o, p⟩ := by
        show (if c = 34 ∨ c = 92 then _ else _) = _
        rw [if_pos e]
      have ih := str_due x (k + 1 + 1) h.2 ((d.on s1).on s2)
      rw [show k + ((92 :: c :: esc x).length + 1) = k + 1 + 1 + ((esc x).length + 1) by simp only [List.length_cons]; omega]
      exact ih
    · rw [esc_one _ (fun z => e (.inl z)) (fun z => e (.inr z))] at d ⊢
      have s1 : stp ⟨.str, o, p⟩ c = some ⟨.str, o, p⟩ := by
        show (if c = 34 then _ else if c = 92 then _ else if plainC c = true then _ else _) = _
        rw [if_neg (fun z => e (.inl z)), if_neg (fun z => e (.inr z)), if_pos h.1]
      have ih := str_due x (k + 1) h.2 (d.on s1)
      rw [show k + ((c :: esc x).length + 1) = k + 1 + ((esc x).length + 1) by simp only [List.length_cons]; omega]
      exact ih
theorem str_bad {z : List Nat} {o p : Nat} {rest : List Nat} {j : Nat} (b : SBad rest j) : ∀ k : Nat, Due z k ⟨.str, o, p⟩ rest → verd ⟨.part, 0, 0⟩ z = some (k + j) := by
  induction b with
  | nil => intro k d; exact d.short (by show (decide (o = 0) && false) = false; rw [Bool.and_false])
  | @odd c r pc =>
    intro k d
    refine d.bad ?_
    show (if c = 34 then _ else if c = 92 then _ else if plainC c = true then _ else _) = none
    rw [if_neg (by rintro rfl; cases pc), if_neg (by rintro rfl; cases pc), pc, if_neg (by decide)]
  | esc0 => intro k d; exact (d.on rfl).short (by show (decide (o = 0) && false) = false; rw [Bool.and_false])
  | @esc1 c r h1 h2 =>
    intro k d
    refine (d.on rfl).bad ?_
    show (if c = 34 ∨ c = 92 then _ else _) = none
    rw [if_neg (fun e => Or.elim e h1 h2)]
  | @plain c r j h1 h2 h3 _ ih =>
    intro k d
    have s1 : stp ⟨.str, o, p⟩ c = some ⟨.str, o, p⟩ := by
      show (if c = 34 then _ else if c = 92 then _ else if plainC c = true then _ else _) = _
      rw [if_neg h1, if_neg h2, if_pos h3]
    rw [ih (k + 1) (d.on s1), show k + 1 + j = k + (j + 1) by omega]
  | @escd c r j h _ ih =>
    intro k d
    have s2 : stp ⟨.esc, o, p⟩ c = some ⟨.str, o, p⟩ := by
      show (if c = 34 ∨ c = 92 then _ else _) = _
      rw [if_pos h]
    rw [ih (k + 1 + 1) ((d.on (s' := ⟨.esc, o, p⟩) rfl).on s2), show k + 1 + 1 + j = k + (j + 2) by omega]
def Out (CN : Addr) (H0 : Hp) (z : List Nat) (E : XK) : Prop := ∀ (j : Nat) (d : Addr) (H' : Hp), verd ⟨.part, 0, 0⟩ z = some j → Same H0 H' → NoAt H' d (j : Int) → E (.ref CN) (some d) H'
def spRB (C CN : Addr) : Sp := fun vs H Q E => ∃ (H0 : Hp) (r u : Addr) (z rest : List Nat) (fs : Frs), vs = [.ref r] ∧ RPre C H0 H r u z rest fs ∧ Out CN H0 z E ∧
  ∀ (H' : Hp) (fs' : Frs) (rest' : List Nat), RSt C H0 H' r u z rest' fs' → rest'.length < rest.length → Q .non H'
theorem not_fine {s : Sta} (h : s.md = .part ∨ s.md = .first) : fine s = false := by
  unfold fine
  rcases h with h | h <;> rw [h] <;> exact Bool.and_false _
section
variable {P : Program} {w : World} {K : PySem.W.Frag} {mg : Str → Option Value} {base : Heap} {ad : Nm → Addr} {dd : Nm → FuncData}
theorem scRB : FnScope ["self", "sign"] ["self"] (defScope sRB) := ⟨rfl, rfl, rfl, by decide +kernel, rfl, by decide +kernel, by decide +kernel⟩
theorem ok_rb (T : Txt K mg ad dd) : FnOk P w K mg base (L2.CX P w) 4 (ad .RB) (dd .RB) ["self"] (spRB (ad .Reader) (ad .NoText)) := by
  have GRF := ok_rf (P := P) (w := w) (base := base) T
  have GRE := ok_re (P := P) (w := w) (base := base) T
  have GRS := ok_rs (P := P) (w := w) (base := base) T
  have GRN := ok_rn (P := P) (w := w) (base := base) T
  have GRQ := ok_rq (P := P) (w := w) (base := base) T
  refine T.RB.F.okX scRB (fun vs H Q E h => ?_) (fun cdv A outer s H vs Q E hr h => ?_)
  · obtain ⟨H0, r, u, z, rest, fs, rfl, _⟩ := h
    rfl
  obtain ⟨H0, r, u, z, rest, fs, rfl, ⟨k, many, res, dx, ls, st, I, F, hz, hmd, hfl⟩, out, q⟩ := h
  have hzl : sizeLine = 16777216 := sizeLine_eq
  refine ⟨_, (pss_cons (ps_if (PW.pt (pw_or (pt_cmpR op_eq (pe_fld (pv 0) rfl) (pe_fld (pv 0) rfl) (nomark _)) (pw_or1 (pt_cmpR op_eq (pe_callB call_len_seq (by rfl) T.n_len bt_len (pa_cons (pe_fld (pv 0) rfl) pa_nil)) (pe_fld (pv 0) rfl) (nomark _))))) (pss_one (ps_no T (hr.mono (by first | decide | omega)) rfl (takes_of rfl rfl rfl rfl) rfl (pe_fld (pv 0) rfl))) pss_nil)
      (pss_cons (ps_fldaug (pv 0) pe_int in_add)
      (pss_cons (ps_set (i := 1) scRB.nd rfl (Or.inl rfl) (pe_meth0 (pv 0) T.cl T.RF.M GRF (hr.mono (by first | decide | omega)) T.RF.b .nil pass0))
      (pss_one (ps_if (pt_cmpR op_eq (pv 1) pe_str (nomark _)) (pss_cons (ps_fldaug (pv 0) pe_int in_add)
      (pss_one (ps_expr (pe_bm PySem.F.plainAttrs_list PySem.F.slot_list_append PySem.F.type_list_append mt_append (pe_fld (pv 0) rfl) (pa_cons (pe_lst pa_nil) pa_nil))))) (pss_one (ps_if (pt_cmpR op_eq (pv 1) pe_str (nomark _)) (pss_one (ps_expr (pe_meth (pv 0) T.cl T.RE.M GRE (hr.mono (by first | decide | omega)) T.RE.b .nil pass0 (pa_cons (pe_meth0 (pv 0) T.cl T.RQ.M GRQ (hr.mono (by first | decide | omega)) T.RQ.b .nil (passes_call (takes_of rfl rfl rfl rfl) fun _ _ _ _ z => z)) pa_nil)))) (pss_one (ps_if (pt_cmpR op_eq (pv 1) pe_str (nomark _)) (pss_cons (ps_expr (pe_meth (pv 0) T.cl T.RS.M GRS (hr.mono (by first | decide | omega)) T.RS.b .nil (passes_call (takes_of rfl rfl rfl rfl) fun _ _ _ _ z => z) (pa_cons pe_str pa_nil)))
      (pss_one (ps_expr (pe_meth (pv 0) T.cl T.RE.M GRE (hr.mono (by first | decide | omega)) T.RE.b .nil pass0 (pa_cons pe_bl pa_nil))))) (pss_one (ps_if (pt_cmpR op_eq (pv 1) pe_str (nomark _)) (pss_cons (ps_expr (pe_meth (pv 0) T.cl T.RS.M GRS (hr.mono (by first | decide | omega)) T.RS.b .nil (passes_call (takes_of rfl rfl rfl rfl) fun _ _ _ _ z => z) (pa_cons pe_str pa_nil)))
      (pss_one (ps_expr (pe_meth (pv 0) T.cl T.RE.M GRE (hr.mono (by first | decide | omega)) T.RE.b .nil pass0 (pa_cons pe_bl pa_nil))))) (pss_one (ps_if (PW.pt (pw_or (pt_cmpR op_eq (pv 1) pe_str (nomark _)) (pw_or1 (pt_chain op_le_str op_le_str pe_str (pv 1) pe_str)))) (pss_one (ps_expr (pe_meth (pv 0) T.cl T.RE.M GRE (hr.mono (by first | decide | omega)) T.RE.b .nil pass0 (pa_cons (pe_meth0 (pv 0) T.cl T.RN.M GRN (hr.mono (by first | decide | omega)) T.RN.b .nil pass0) pa_nil)))) (pss_one (ps_no T (hr.mono (by first | decide | omega)) rfl (takes_of rfl rfl rfl rfl) rfl (pe_fld (pv 0) rfl)))))))))))))))), ?_⟩
  have g := I.rd.1
  have nf : fine st = false := not_fine (hmd.imp id And.left)
  have fl := I.fr.len
  have stp_at : ∀ c l, rest = c :: l → stp st c = beg st.op st.pa c := fun c l e => by
    unfold stp
    rcases hmd with h | ⟨h, h2⟩
    · rw [h]
    · rw [h]
      show (if c = 41 then _ else _) = _
      rw [if_neg (h2 c l e)]
  -- NoText at the reader's index
  have bad : ∀ (H3 : Hp) (m3 : Nat) (o : Option V), But r H H3 → H3 r = some (.ins (ad .Reader) dx (rf z k m3 u res)) → verd ⟨.part, 0, 0⟩ z = some k →
      (tMkO (ad .NoText) (spNI (ad .NoText)) [] (tCons (tFld K (tVar 0) "at") tNil) [some (.ref r), o] H3 fun cls d H' => E cls d H') := fun H3 m3 o b3 h3 hv => by
    refine ⟨_, rfl, r, _, dx, _, _, rfl, h3, T.cl, T.aAt, rf_at, ?_⟩
    exact no_read fun d H4 s4 dn na => out k d H4 hv ((I.away b3).trans s4) na
  have full : (1999 < many ∨ 29 < fs.length) → verd ⟨.part, 0, 0⟩ z = some k := fun h => by
    cases rest with
    | nil => exact F.du.short nf
    | cons c l =>
      refine F.du.bad ?_
      rw [stp_at c l rfl]
      unfold beg
      rw [F.op, F.pa, if_pos (by omega)]
  refine ⟨_, rfl, r, _, dx, _, _, rfl, g, T.cl, T.aMany, rf_many, _, rfl, r, _, dx, _, _, rfl, g, T.cl, T.aMost_parts, rf_most_parts, rfl, _, rfl, ?_⟩
  by_cases hm : many = 2000
  · rw [decide_eq_true (show V.int (many : Int) = V.int 2000 by rw [hm]; rfl)]
    exact iteT (iteT (bad H many _ (But.refl _ _) g (full (by omega))))
  rw [decide_eq_false (show ¬ V.int (many : Int) = V.int 2000 by intro e; have e2 := V.int.inj e; omega)]
  refine iteF ⟨_, rfl, r, _, dx, _, _, rfl, g, T.cl, T.aUnclosed, rf_unclosed, u, _, rfl, .inl (SqL.of I.un), _, rfl, r, _, dx, _, _, rfl, g, T.cl, T.aMost_deep, rf_most_deep, rfl, _, rfl, ?_⟩
  by_cases hf : fs.length = 30
  · rw [decide_eq_true (show V.int ((((ls.map V.ref).reverse).length : Nat) : Int) = V.int 30 by rw [List.length_reverse, List.length_map, fl, hf]; rfl)]
    exact iteT (bad H many _ (But.refl _ _) g (full (by omega)))
  rw [decide_eq_false (show ¬ V.int ((((ls.map V.ref).reverse).length : Nat) : Int) = V.int 30 by intro e; rw [List.length_reverse, List.length_map] at e; have := V.int.inj e; omega)]
  have mle := F.le
  refine iteF ⟨_, rfl, r, _, dx, _, _, rfl, g, T.cl, T.aMany, rf_many, _, _, rfl, rfl, dx, _, g, rf_len, ?_⟩
  rw [show ((many : Nat) : Int) + 1 = ((many + 1 : Nat) : Int) by omega, rfp_many]
  have B1 : But r H (upd H r (.ins (ad .Reader) dx (rf z k (many + 1) u res))) := But.put
  have I1 := I.but But.put (k' := k) (many' := many + 1) (res' := res) ⟨upd_same, I.rd.2⟩
  generalize upd H r (.ins (ad .Reader) dx (rf z k (many + 1) u res)) = H1 at I1 B1
  have g1 := I1.rd.1
  refine ⟨_, rfl, r, dx, _, rfl, g1, rf_following, r, dx, z, _, _, many + 1, u, res, rfl, I1.rd, ?_⟩
  have neq : ∀ {c d : Nat}, c ≠ d → [c] ≠ [d] := fun n q => n (List.cons.inj q).1
  cases rest with
  | nil =>
    have hv := F.du.short nf
    rw [show List.take 1 ([] : List Nat) = [] from rfl, e40, e34, e121, e110, e45, e48, e57]
    refine ⟨_, rfl, rfl, _, rfl, ?_⟩
    rw [str_ne (by intro q; cases q)]
    refine iteF ⟨_, rfl, rfl, _, rfl, ?_⟩
    rw [str_ne (by intro q; cases q)]
    refine iteF ⟨_, rfl, rfl, _, rfl, ?_⟩
    rw [str_ne (by intro q; cases q)]
    refine iteF ⟨_, rfl, rfl, _, rfl, ?_⟩
    rw [str_ne (by intro q; cases q)]
    refine iteF ⟨_, rfl, rfl, _, rfl, ?_⟩
    rw [str_ne (by intro q; cases q)]
    refine iteF ⟨_, rfl, _, _, rfl, rfl, ?_⟩
    rw [le_ce]
    exact ⟨_, rfl, iteF ⟨_, rfl, iteF (bad H1 (many + 1) _ B1 g1 hv)⟩⟩
  | cons c l =>
    have hs := stp_at c l rfl
    have hb : beg st.op st.pa c = (begMd c).map fun m => (⟨m, if c = 40 then fs.length + 1 else fs.length, many + 1⟩ : Sta) := by
      unfold beg
      rw [F.op, F.pa, if_neg (by omega)]
    rw [hb] at hs
    rw [show List.take 1 (c :: l) = [c] from rfl, e40, e34, e121, e110, e45, e48, e57]
    -- a part is done
    have fin : ∀ {H2 : Hp} {y : V} {t : PyData} {rest' : List Nat} {k2 : Nat} {s' : Sta}, RIn (ad .Reader) H0 H2 r u z rest' fs k2 (many + 1) res dx ls → Due z k2 s' rest' → s'.op = fs.length → s'.pa = many + 1 → Endl s' rest' → Tr H2 y t → gx t = true → dp t = 1 → c :: l = wr t ++ rest' →
        ∃ us, H2 u = some (.lst us) ∧ ((us = [] ∧ Q .non (upd H2 r (.ins (ad .Reader) dx (rf z k2 (many + 1) u y)))) ∨ ∃ (vs' : List V) (l : Addr) (xs : List V), us = vs' ++ [.ref l] ∧ H2 l = some (.lst xs) ∧ xs.length < sizeLine ∧ Q .non (upd H2 l (.lst (xs ++ [y])))) := by
      intro H2 y t rest' k2 s' I2 d2 o2 p2 en ht hg hd he
      refine put_end I2 ⟨d2, o2, p2, by omega⟩ ht hg (by omega) (by rw [List.append_assoc, ← he]; exact hz) en fun H' fs' st' => q H' fs' rest' st' ?_
      have := congrArg List.length he
      rw [List.length_append] at this
      have := List.length_pos_iff.mpr (wr_ne t hg)
      omega
    refine ⟨_, rfl, rfl, _, rfl, ?_⟩
    by_cases c40 : c = 40
    · subst c40
      rw [str_eq]
      refine iteT ⟨_, rfl, r, _, dx, _, _, rfl, g1, T.cl, T.aAt, rf_at, _, _, rfl, rfl, dx, _, g1, rf_len, ?_⟩
      rw [show ((k : Nat) : Int) + 1 = ((k + 1 : Nat) : Int) by omega, rfp_at]
      have I2 := I1.but But.put (k' := k + 1) (many' := many + 1) (res' := res) (rest' := l) ⟨upd_same, drop_tail I1.rd.2.1, I1.rd.2.2⟩
      generalize upd H1 r (.ins (ad .Reader) dx (rf z (k + 1) (many + 1) u res)) = H2 at I2
      refine ⟨_, rfl, r, _, dx, _, _, rfl, I2.rd.1, T.cl, T.aUnclosed, rf_unclosed, .inl ⟨rfl, _, .inl (.inl I2.un)⟩, Nat.zero_le _, fun a ha => ?_⟩
      refine ⟨u, _, _, rfl, rfl, by rw [upd_ne (ne_of_none I2.un ha)]; exact I2.un, by rw [List.length_reverse, List.length_map]; omega, ?_⟩
      refine q _ ([] :: fs) l (put_open I2 (s := ⟨.first, fs.length + 1, many + 1⟩) ⟨F.du.on hs, rfl, rfl, by omega⟩ (by omega) ?_ rfl ha) (Nat.lt_succ_self _)
      rw [hz, preE_new]
      show preB fs ++ 40 :: l = (preB fs ++ [40]) ++ l
      rw [List.append_assoc]; rfl
    rw [if_neg c40] at hs
    rw [str_ne (neq c40)]
    refine iteF ⟨_, rfl, rfl, _, rfl, ?_⟩
    by_cases c34 : c = 34
    · subst c34
      rw [str_eq]
      refine iteT ⟨_, rfl, r, dx, _, rfl, g1, rf_end_part, ?_⟩
      have d1 : Due z (k + 1) ⟨.str, fs.length, many + 1⟩ l := F.du.on hs
      refine ⟨_, rfl, r, dx, _, rfl, g1, rf_read_string, r, dx, z, l, k, many + 1, u, res, rfl, I1.rd, fun x rest' H2 e hx b2 g2 => ?_, fun j d H2 sb b2 na => ?_⟩
      · have d2 := str_due (rest := rest') x (k + 1) hx (by rw [← e]; exact d1)
        obtain ⟨us, hu, f⟩ := fin (I1.but b2 g2) (y := .str (S x)) (t := .str (S x)) (s' := ⟨.fin, fs.length, many + 1⟩) (by rw [show k + ((esc x).length + 2) = k + 1 + ((esc x).length + 1) by omega]; exact d2) rfl rfl ⟨rfl, fun c r e => rfl⟩ (.str _) rfl rfl (by rw [e]; show 34 :: (esc x ++ 34 :: rest') = ([34] ++ esc x ++ [34]) ++ rest'; rw [List.append_assoc, List.append_assoc]; rfl)
        exact ⟨r, dx, z, _, _, _, u, res, _, us, rfl, g2, hu, f⟩
      · exact out (k + 1 + j) d H2 (str_bad sb (k + 1) d1) (I1.away b2) na
    rw [str_ne (neq c34)]
    refine iteF ⟨_, rfl, rfl, _, rfl, ?_⟩
    by_cases c121 : c = 121
    · subst c121
      rw [str_eq]
      have d1 : Due z (k + 1) ⟨.word [101, 115], fs.length, many + 1⟩ l := F.du.on hs
      refine iteT ⟨_, rfl, r, dx, _, rfl, g1, rf_spell, ?_⟩
      rw [eyes]
      refine ⟨r, dx, z, [121, 101, 115], _, k, many + 1, u, res, rfl, I1.rd, fun rest' H2 e b2 g2 => ?_, fun i rest2 d H2 hi e nc b2 na => ?_⟩
      · have el : l = 101 :: 115 :: rest' := (List.cons.inj e).2
        rw [el] at d1
        have d3 : Due z (k + 3) ⟨.fin, fs.length, many + 1⟩ rest' := (d1.on (s' := ⟨.word [115], fs.length, many + 1⟩) rfl).on rfl
        obtain ⟨us, hu, f⟩ := fin (I1.but b2 g2) (y := .bl true) (t := .bool true) d3 rfl rfl ⟨rfl, fun c r e => rfl⟩ (.bl true) rfl rfl e
        exact ⟨_, rfl, r, dx, _, rfl, g2.1, rf_end_part, r, dx, z, _, _, _, u, res, _, us, rfl, g2, hu, f⟩
      · have hi' : i < 3 := hi
        refine out (k + i) d H2 ?_ (I1.away b2) na
        match i, hi', e, nc with
        | 0, _, e, nc => exact absurd rfl (nc 121 l e.symm)
        | 1, _, e, nc =>
          have el : l = rest2 := (List.cons.inj e).2
          subst el
          cases l with
          | nil => exact d1.short (by show (decide (fs.length = 0) && false) = false; rw [Bool.and_false])
          | cons x l =>
            refine d1.bad ?_
            show (if x = 101 then _ else none) = none
            rw [if_neg (fun z => nc x l rfl (by rw [z]; rfl))]
        | 2, _, e, nc =>
          have el : l = 101 :: rest2 := (List.cons.inj e).2
          rw [el] at d1
          have d2 : Due z (k + 2) ⟨.word [115], fs.length, many + 1⟩ rest2 := d1.on rfl
          cases rest2 with
          | nil => exact d2.short (by show (decide (fs.length = 0) && false) = false; rw [Bool.and_false])
          | cons x l =>
            refine d2.bad ?_
            show (if x = 115 then _ else none) = none
            rw [if_neg (fun z => nc x l rfl (by rw [z]; rfl))]
    rw [str_ne (neq c121)]
    refine iteF ⟨_, rfl, rfl, _, rfl, ?_⟩
    by_cases c110 : c = 110
    · subst c110
      rw [str_eq]
      have d1 : Due z (k + 1) ⟨.word [111], fs.length, many + 1⟩ l := F.du.on hs
      refine iteT ⟨_, rfl, r, dx, _, rfl, g1, rf_spell, ?_⟩
      rw [eno]
      refine ⟨r, dx, z, [110, 111], _, k, many + 1, u, res, rfl, I1.rd, fun rest' H2 e b2 g2 => ?_, fun i rest2 d H2 hi e nc b2 na => ?_⟩
      · have el : l = 111 :: rest' := (List.cons.inj e).2
        rw [el] at d1
        have d3 : Due z (k + 2) ⟨.fin, fs.length, many + 1⟩ rest' := d1.on rfl
        obtain ⟨us, hu, f⟩ := fin (I1.but b2 g2) (y := .bl false) (t := .bool false) d3 rfl rfl ⟨rfl, fun c r e => rfl⟩ (.bl false) rfl rfl e
        exact ⟨_, rfl, r, dx, _, rfl, g2.1, rf_end_part, r, dx, z, _, _, _, u, res, _, us, rfl, g2, hu, f⟩
      · have hi' : i < 2 := hi
        refine out (k + i) d H2 ?_ (I1.away b2) na
        match i, hi', e, nc with
        | 0, _, e, nc => exact absurd rfl (nc 110 l e.symm)
        | 1, _, e, nc =>
          have el : l = rest2 := (List.cons.inj e).2
          subst el
          cases l with
          | nil => exact d1.short (by show (decide (fs.length = 0) && false) = false; rw [Bool.and_false])
          | cons x l =>
            refine d1.bad ?_
            show (if x = 111 then _ else none) = none
            rw [if_neg (fun z => nc x l rfl (by rw [z]; rfl))]
    rw [str_ne (neq c110)]
    refine iteF ⟨_, rfl, rfl, _, rfl, ?_⟩
    have num : (c = 45 ∨ (48 ≤ c ∧ c ≤ 57)) → tMeth (ad .Reader) "end_part" (spRE (ad .Reader)) [] E0 (tVar 0) (tCons (tMeth (ad .Reader) "read_number" (spRN (ad .Reader)) [] E0 (tVar 0) tNil) tNil) [some (.ref r), some (.str (S [c]))] H1 (fun _ H' => Q .non H') := fun hc => by
      obtain ⟨m, hm⟩ : ∃ m, begMd c = some m := by
        unfold begMd
        rcases hc with rfl | hc
        · exact ⟨_, rfl⟩
        · by_cases c48 : c = 48
          · rw [c48]; exact ⟨_, rfl⟩
          · rw [if_neg c40, if_neg (by omega), if_neg c48, if_neg c34, if_neg c121, if_neg c110, if_pos (by omega)]
            exact ⟨_, rfl⟩
      rw [hm] at hs
      obtain ⟨l', rest', y, s', e, ew, _, cnd, o2, p2, en, d2⟩ := num_due F.du hm hs hc
      have R1 := I1.rd
      rw [e] at R1
      refine ⟨_, rfl, r, dx, _, rfl, g1, rf_end_part, ?_⟩
      rcases cnd with ⟨el, rfl, nx⟩ | ⟨i, el, rfl, hi, nx⟩
      · refine ⟨_, rfl, r, dx, _, rfl, g1, rf_read_number, r, dx, z, l', rest', k, many + 1, u, res, .non, rfl, R1, .inl ⟨el, rfl, nx⟩, fun H2 b2 g2 => ?_⟩
        obtain ⟨us, hu, f⟩ := fin (I1.but b2 g2) (y := .non) (t := .none) d2 o2 p2 en .non rfl rfl (by rw [e, ew])
        exact ⟨r, dx, z, _, _, _, u, res, _, us, rfl, g2, hu, f⟩
      · refine ⟨_, rfl, r, dx, _, rfl, g1, rf_read_number, r, dx, z, l', rest', k, many + 1, u, res, .int i, rfl, R1, .inr ⟨i, el, rfl, hi, nx⟩, fun H2 b2 g2 => ?_⟩
        obtain ⟨us, hu, f⟩ := fin (I1.but b2 g2) (y := .int i) (t := .int i) d2 o2 p2 en (.int i) (decide_eq_true hi) rfl (by rw [e, ew])
        exact ⟨r, dx, z, _, _, _, u, res, _, us, rfl, g2, hu, f⟩
    by_cases c45 : c = 45
    · have n := num (.inl c45)
      rw [c45, str_eq]
      rw [c45] at n
      exact iteT (iteT n)
    rw [str_ne (neq c45)]
    refine iteF ⟨_, rfl, _, _, rfl, rfl, ?_⟩
    have odd : ¬ (48 ≤ c ∧ c ≤ 57) → (tMkO (ad .NoText) (spNI (ad .NoText)) [] (tCons (tFld K (tVar 0) "at") tNil) [some (.ref r), some (.str (S [c]))] H1 fun cls d H' => E cls d H') := fun hc => by
      have hm : begMd c = none := by
        unfold begMd
        rw [if_neg c40, if_neg c45, if_neg (by omega), if_neg c34, if_neg c121, if_neg c110, if_neg (by omega)]
      rw [hm] at hs
      exact bad H1 (many + 1) _ B1 g1 (F.du.bad hs)
    rw [le_cc]
    refine ⟨_, rfl, ite2 (fun h1 => ⟨_, _, rfl, rfl, ?_⟩) (fun h1 => ⟨_, rfl, iteF (odd fun h => h1 (decide_eq_true h.1))⟩)⟩
    rw [le_cc]
    refine ⟨_, rfl, ?_⟩
    exact ite2 (fun h2 => num (.inr ⟨of_decide_eq_true h1, of_decide_eq_true h2⟩)) (fun h2 => odd fun h => h2 (decide_eq_true h.2))
end
end TK
namespace TK
open PySem L2
/-! ### one turn, the whole text -/
def spRG (C CN : Addr) : Sp := fun vs H Q E => ∃ (H0 : Hp) (r u : Addr) (z rest : List Nat) (fs : Frs), vs = [.ref r] ∧ RSt C H0 H r u z rest fs ∧ fs ≠ [] ∧ Out CN H0 z E ∧
  ∀ (H' : Hp) (fs' : Frs) (rest' : List Nat), RSt C H0 H' r u z rest' fs' → rest'.length < rest.length → Q .non H'
/-- a tree with the text z -/
def IsText (H : Hp) (x : V) (z : List Nat) : Prop := ∃ T : PyData, Tr H x T ∧ gx T = true ∧ dp T ≤ 30 ∧ z = wr T
def spRW (C CN : Addr) : Sp := fun vs H Q E => ∃ (H0 : Hp) (r u : Addr) (z : List Nat), vs = [.ref r] ∧ RPre C H0 H r u z z [] ∧ Out CN H0 z E ∧ ∀ (x : V) (H' : Hp), Same H0 H' → IsText H' x z → verd ⟨.part, 0, 0⟩ z = none → Q x H'
theorem beh_no {o p c : Nat} (h : p = 2000) (h2 : c ≠ 41) : beh o p c = none := by
  unfold beh
  rw [if_neg (by omega), if_neg (by omega)]
theorem beh_space {o p : Nat} (h : 0 < o) (h2 : p < 2000) : beh o p 32 = some ⟨.part, o, p⟩ := by
  unfold beh
  rw [if_pos ⟨rfl, h, h2⟩]
theorem beh_odd {o p c : Nat} (h : c ≠ 32) (h2 : c ≠ 41) : beh o p c = none := by
  unfold beh
  rw [if_neg (by omega), if_neg (by omega)]
theorem beh_close {o p : Nat} : beh (o + 1) p 41 = some ⟨.fin, o, p⟩ := by
  unfold beh
  rw [if_neg (by omega), if_pos ⟨rfl, by omega⟩]; rfl
theorem beh_out {p c : Nat} : beh 0 p c = none := by
  unfold beh
  rw [if_neg (by omega), if_neg (by omega)]
section
variable {P : Program} {w : World} {K : PySem.W.Frag} {mg : Str → Option Value} {base : Heap} {ad : Nm → Addr} {dd : Nm → FuncData}
theorem scRG : FnScope ["self", "parts"] ["self"] (defScope sRG) := ⟨rfl, rfl, rfl, by decide +kernel, rfl, by decide +kernel, by decide +kernel⟩
theorem scRW : FnScope ["self"] ["self"] (defScope sRW) := ⟨rfl, rfl, rfl, by decide +kernel, rfl, by decide +kernel, by decide +kernel⟩
theorem ok_rg (T : Txt K mg ad dd) : FnOk P w K mg base (L2.CX P w) 5 (ad .RG) (dd .RG) ["self"] (spRG (ad .Reader) (ad .NoText)) := by
  have GRF := ok_rf (P := P) (w := w) (base := base) T
  have GRE := ok_re (P := P) (w := w) (base := base) T
  have GRS := ok_rs (P := P) (w := w) (base := base) T
  have GRB := ok_rb (P := P) (w := w) (base := base) T
  refine T.RG.F.okX scRG (fun vs H Q E h => ?_) (fun cdv A outer s H vs Q E hr h => ?_)
  · obtain ⟨H0, r, u, z, rest, fs, rfl, _⟩ := h
    rfl
  obtain ⟨H0, r, u, z, rest, fs, rfl, ⟨k, many, res, dx, ls, st, I, F, rd⟩, hfs, out, q⟩ := h
  have hzl : sizeLine = 16777216 := sizeLine_eq
  refine ⟨_, (pss_cons (ps_set (i := 1) scRG.nd rfl (Or.inl rfl) (pe_ix ix_list (pe_fld (pv 0) rfl) (pe_un un_neg pe_int) (fun _ _ => rfl)))
      (pss_cons (ps_if (pt_cmpR op_eq (pe_meth0 (pv 0) T.cl T.RF.M GRF (hr.mono (by first | decide | omega)) T.RF.b .nil pass0) pe_str (nomark _)) (pss_cons (ps_fldaug (pv 0) pe_int in_add)
      (pss_cons (ps_expr (pe_bm0 PySem.F.plainAttrs_list PySem.F.slot_list_pop PySem.F.type_list_pop mt_pop (pe_fld (pv 0) rfl)))
      (pss_cons (ps_expr (pe_meth (pv 0) T.cl T.RE.M GRE (hr.mono (by first | decide | omega)) T.RE.b .nil pass0 (pa_cons (pe_callTy call_tuple_of (by rfl) T.n_tuple bt_tuple (pa_cons (pv 1) pa_nil)) pa_nil)))
      (pss_one ps_retN)))) pss_nil)
      (pss_cons (ps_if (pt_truth (pv 1) (fun _ => rfl)) (pss_cons (ps_if (pt_cmpR op_eq (pe_fld (pv 0) rfl) (pe_fld (pv 0) rfl) (nomark _)) (pss_one (ps_no T (hr.mono (by first | decide | omega)) rfl (takes_of rfl rfl rfl rfl) rfl (pe_fld (pv 0) rfl))) pss_nil)
      (pss_one (ps_expr (pe_meth (pv 0) T.cl T.RS.M GRS (hr.mono (by first | decide | omega)) T.RS.b .nil (passes_call (takes_of rfl rfl rfl rfl) fun _ _ _ _ z => z) (pa_cons pe_str pa_nil))))) pss_nil)
      (pss_one (ps_expr (pe_meth0 (pv 0) T.cl T.RB.M GRB (hr.mono (by first | decide | omega)) T.RB.b .nil (passes_call (takes_of rfl rfl rfl rfl) fun _ _ _ _ z => z))))))), ?_⟩
  cases fs with
  | nil => exact absurd rfl hfs
  | cons ds fs =>
  obtain ⟨hz, hfst, hend⟩ := rd
  have g := I.rd.1
  have hf := I.fr
  have opn : st.op = fs.length + 1 := F.op
  have nf : fine st = false := by
    unfold fine
    rw [opn, decide_eq_false (by omega)]
    rfl
  have mle := F.le
  have okd := I.ok
  cases hf with
  | @cons l ls vs _ _ h1 h2 h3 h4 h5 h6 =>
  have un := I.un
  rw [List.map_cons, List.reverse_cons] at un
  have bad : ∀ (H3 : Hp) (m3 : Nat) (o : Option V), But r H H3 → H3 r = some (.ins (ad .Reader) dx (rf z k m3 u res)) → verd ⟨.part, 0, 0⟩ z = some k →
      (tMkO (ad .NoText) (spNI (ad .NoText)) [] (tCons (tFld K (tVar 0) "at") tNil) [some (.ref r), o] H3 fun cls d H' => E cls d H') := fun H3 m3 o b3 h3 hv => by
    refine ⟨_, rfl, r, _, dx, _, _, rfl, h3, T.cl, T.aAt, rf_at, ?_⟩
    exact no_read fun d H4 s4 dn na => out k d H4 hv ((I.away b3).trans s4) na
  refine ⟨_, rfl, r, _, dx, _, _, rfl, g, T.cl, T.aUnclosed, rf_unclosed, _, rfl, u, _, _, .ref l, rfl, rfl, SqL.of un, at_last _ _, ?_⟩
  refine ⟨_, rfl, r, dx, _, rfl, g, rf_following, r, dx, z, _, _, many, u, res, rfl, I.rd, rfl, _, rfl, ?_⟩
  rw [e41]
  by_cases hc41 : ∃ r2, rest = 41 :: r2
  · obtain ⟨r2, rfl⟩ := hc41
    have hs : stp st 41 = some ⟨.fin, fs.length, many⟩ := by
      have hb : beh st.op st.pa 41 = some ⟨.fin, fs.length, many⟩ := by rw [opn, F.pa]; exact beh_close
      by_cases e : ds = []
      · unfold stp
        rw [hfst e]
        exact hb
      · rw [(hend e).2 41 r2 rfl, hb]
    rw [show List.take 1 (41 :: r2) = [41] from rfl, str_eq]
    refine iteT ⟨_, rfl, r, _, dx, _, _, rfl, g, T.cl, T.aAt, rf_at, _, _, rfl, rfl, dx, _, g, rf_len, ?_⟩
    rw [show ((k : Nat) : Int) + 1 = ((k + 1 : Nat) : Int) by omega, rfp_at]
    have I1 := I.but But.put (k' := k + 1) (many' := many) (res' := res) ⟨upd_same, drop_tail I.rd.2.1, I.rd.2.2⟩
    have tu : ∀ j, Tups H (upd H r (.ins (ad .Reader) dx (rf z j many u res))) := fun j => tups_but But.put g
    have L1 : (upd H r (.ins (ad .Reader) dx (rf z (k + 1) many u res))) l = some (.lst vs) := by rw [upd_ne (ne_of h4 g (by intro q; cases q))]; exact h4
    have T1 := TrAll.keep (tu (k + 1)) _ _ h5
    generalize upd H r (.ins (ad .Reader) dx (rf z (k + 1) many u res)) = H1 at I1 L1 T1
    have un1 := I1.un
    rw [List.map_cons, List.reverse_cons] at un1
    refine ⟨_, rfl, r, _, dx, _, _, rfl, I1.rd.1, T.cl, T.aUnclosed, rf_unclosed, .inl ⟨rfl, _, .inl (.inl un1)⟩, u, _, _, rfl, rfl, un1, last_app _ _, ?_⟩
    rw [List.dropLast_concat]
    have I2 := I1.pop
    have L2' : (upd H1 u (.lst (ls.map V.ref).reverse)) l = some (.lst vs) := by rw [upd_ne h2]; exact L1
    have T2 := TrAll.keep (tups_lst (o := .lst (ls.map V.ref).reverse) un1) _ _ T1
    generalize upd H1 u (.lst (ls.map V.ref).reverse) = H2 at I2 L2' T2
    refine ⟨_, rfl, r, dx, _, rfl, I2.rd.1, rf_end_part, _, rfl, l, vs, rfl, .inl ⟨SqL.of L2', fun p hp2 => ?_⟩⟩
    have I3 := I2.keep (same_new hp2 (.tup vs))
    have T3 : Tr (upd H2 p (.tup vs)) (.ref p) (.tuple ds) := .tup upd_same (TrAll.keep (Tups.of_same (same_new hp2 (.tup vs))) _ _ T2)
    have dpt : dp (.tuple ds) = dps ds + 1 := rfl
    have okd2 := okd.2.1
    obtain ⟨us, hu, f⟩ := put_end (Q := fun _ H' => Q .non H') (s := ⟨.fin, fs.length, many⟩) I3 ⟨F.du.on hs, rfl, rfl, mle⟩ T3 okd.1 (by rw [dpt]; omega)
      (by rw [hz, ← preE_close, List.append_assoc]; rfl) ⟨rfl, fun c r e => rfl⟩ (fun H' fs' st' => q H' fs' r2 st' (Nat.lt_succ_self _))
    exact ⟨r, dx, z, _, _, _, u, res, _, us, rfl, I3.rd, hu, f⟩
  have nc : ∀ c r2, rest = c :: r2 → c ≠ 41 := fun c r2 e e2 => hc41 ⟨r2, by rw [e, e2]⟩
  have ecmp : decide (V.str (S (rest.take 1)) = V.str (S [41])) = false := by
    cases rest with
    | nil => exact str_ne (by intro q; cases q)
    | cons c r2 => exact str_ne (a := [c]) (b := [41]) (by intro q; exact nc c r2 rfl (List.cons.inj q).1)
  rw [ecmp]
  by_cases e : ds = []
  · subst e
    cases h5
    refine iteF ⟨_, rfl, false, .inl ⟨_, SqL.of h4, rfl⟩, iteF ?_⟩
    exact ⟨_, rfl, r, dx, _, rfl, g, rf_begin_part, H0, r, u, z, rest, [] :: fs, rfl, ⟨k, many, res, dx, _, st, I, F, hz, .inr ⟨hfst rfl, nc⟩, by show fs.length + 1 ≤ 30; have := okd.2.1; omega⟩, out, fun H' fs' rest' st' lt => q H' fs' rest' st' lt⟩
  · have hE := hend e
    have vne : vs ≠ [] := fun z => e (by have := TrAll.length h5; rw [z] at this; exact List.eq_nil_of_length_eq_zero this.symm)
    have vtr : decide (vs.length ≠ 0) = true := decide_eq_true fun z => vne (List.eq_nil_of_length_eq_zero z)
    obtain ⟨v0, vs', rfl⟩ : ∃ v0 vs', vs = v0 :: vs' := by
      cases vs with
      | nil => exact absurd rfl vne
      | cons a b => exact ⟨a, b, rfl⟩
    refine iteF ⟨_, rfl, true, .inl ⟨_, SqL.of h4, by simp⟩, iteT ?_⟩
    refine ⟨_, rfl, r, _, dx, _, _, rfl, g, T.cl, T.aMany, rf_many, _, rfl, r, _, dx, _, _, rfl, g, T.cl, T.aMost_parts, rf_most_parts, rfl, _, rfl, ?_⟩
    by_cases hm : many = 2000
    · rw [decide_eq_true (show V.int (many : Int) = V.int 2000 by rw [hm]; rfl)]
      refine iteT (bad H many _ (But.refl _ _) g ?_)
      cases rest with
      | nil => exact F.du.short nf
      | cons c r2 => exact F.du.bad (by rw [hE.2 c r2 rfl]; exact beh_no (F.pa.trans hm) (nc c r2 rfl))
    rw [decide_eq_false (show ¬ V.int (many : Int) = V.int 2000 by intro e; have e2 := V.int.inj e; omega)]
    refine iteF ⟨_, rfl, r, dx, _, rfl, g, rf_spell, ?_⟩
    rw [e32]
    refine ⟨r, dx, z, [32], rest, k, many, u, res, rfl, I.rd, fun rest' H2 er b2 g2 => ?_, fun i rest2 d H2 hi er nc2 b2 na => ?_⟩
    · have er' : rest = 32 :: rest' := er
      subst er'
      have I2 := I.but b2 g2
      have hs : stp st 32 = some ⟨.part, fs.length + 1, many⟩ := by
        rw [hE.2 32 rest' rfl, opn, F.pa]
        exact beh_space (by omega) (by omega)
      exact ⟨_, rfl, r, dx, _, rfl, g2.1, rf_begin_part, H0, r, u, z, rest', ds :: fs, rfl, ⟨k + 1, many, res, dx, _, ⟨.part, fs.length + 1, many⟩, I2, ⟨F.du.on hs, rfl, rfl, mle⟩, by rw [← preE_next ds e, List.append_assoc]; exact hz, .inl rfl, by show fs.length + 1 ≤ 30; have := okd.2.1; omega⟩, out,
        fun H' fs' rest'' st' lt => q H' fs' rest'' st' (Nat.lt_succ_of_lt lt)⟩
    · have hi0 : i = 0 := by
        have : i < 1 := hi
        omega
      subst hi0
      have er' : rest = rest2 := er
      subst er'
      refine out k d H2 ?_ (I.away b2) na
      cases rest with
      | nil => exact F.du.short nf
      | cons c r2 => exact F.du.bad (by rw [hE.2 c r2 rfl]; exact beh_odd (fun z => nc2 c r2 rfl (by rw [z]; rfl)) (nc c r2 rfl))
theorem ok_rw (T : Txt K mg ad dd) : FnOk P w K mg base (L2.CX P w) 6 (ad .RW) (dd .RW) ["self"] (spRW (ad .Reader) (ad .NoText)) := by
  have GRB := ok_rb (P := P) (w := w) (base := base) T
  have GRG := ok_rg (P := P) (w := w) (base := base) T
  refine T.RW.F.okX scRW (fun vs H Q E h => ?_) (fun cdv A outer s H vs Q E hr h => ?_)
  · obtain ⟨H0, r, u, z, rfl, _⟩ := h
    rfl
  obtain ⟨H0, r, u, z, rfl, pre, out, q⟩ := h
  refine ⟨_, (pss_cons (ps_expr (pe_meth0 (pv 0) T.cl T.RB.M GRB (hr.mono (by first | decide | omega)) T.RB.b .nil (passes_call (takes_of rfl rfl rfl rfl) fun _ _ _ _ z => z)))
      (pss_cons (ps_while (passes_of rfl) (pt_truth (pe_fld (pv 0) rfl) (fun _ => rfl)) (pss_one (ps_expr (pe_meth0 (pv 0) T.cl T.RG.M GRG (hr.mono (by first | decide | omega)) T.RG.b .nil (passes_call (takes_of rfl rfl rfl rfl) fun _ _ _ _ z => z)))))
      (pss_cons (ps_if (pt_cmpR op_lt (pe_fld (pv 0) rfl) (pe_callB call_len (by rfl) T.n_len bt_len (pa_cons (pe_fld (pv 0) rfl) pa_nil)) (nomark _)) (pss_one (ps_no T (hr.mono (by first | decide | omega)) rfl (takes_of rfl rfl rfl rfl) rfl (pe_fld (pv 0) rfl))) pss_nil)
      (pss_one (ps_ret (pe_fld (pv 0) rfl)))))), ?_⟩
  have pre' := pre
  obtain ⟨k0, many0, res0, dx0, ls0, s0, I0, _⟩ := pre'
  refine ⟨_, rfl, r, dx0, _, rfl, I0.rd.1, rf_begin_part, H0, r, u, z, z, [], rfl, pre, out, fun H1 fs1 rest1 st1 _ => ?_⟩
  refine ⟨fun m σ H2 => ∃ fs rest, σ = [some (.ref r)] ∧ RSt (ad .Reader) H0 H2 r u z rest fs ∧ m = rest.length, ⟨_, fs1, rest1, rfl, st1, rfl⟩, ?_⟩
  rintro m σ H2 ⟨fs, rest, rfl, ⟨k, many, res, dx, ls, st, I, F, rd⟩, rfl⟩
  have g := I.rd.1
  cases fs with
  | nil =>
    have hf := I.fr
    cases hf
    obtain ⟨TT, tr, hg, hd, hz, en⟩ := rd
    refine ⟨_, rfl, r, _, dx, _, _, rfl, g, T.cl, T.aUnclosed, rf_unclosed, false, .inl ⟨_, SqL.of I.un, rfl⟩, ?_⟩
    have zk : z.length - k = rest.length := by rw [← List.length_drop, I.rd.2.1]
    refine ⟨_, rfl, r, _, dx, _, _, rfl, g, T.cl, T.aAt, rf_at, _, rfl, r, _, dx, _, _, rfl, g, T.cl, T.aText, rf_text, _, _, rfl, ⟨by rw [S_len]; exact I.rd.2.2, rfl⟩, _, _, rfl, rfl, _, rfl, ?_⟩
    rw [S_len]
    cases rest with
    | nil =>
      have zk' : z.length - k = 0 := zk
      rw [decide_eq_false (by omega)]
      refine iteF ⟨_, rfl, r, _, dx, _, _, rfl, g, T.cl, T.aResult, rf_result, ?_⟩
      refine q _ _ I.sm ⟨TT, tr, hg, hd, by rw [hz, List.append_nil]⟩ (F.du.good ?_)
      have h1 := en.1
      unfold fine
      rw [show st.op = 0 from F.op, decide_eq_true rfl, Bool.true_and]
      cases e : st.md <;> rw [e] at h1 <;> first | rfl | cases h1
    | cons c l =>
      have zk' : z.length - k = l.length + 1 := zk
      rw [decide_eq_true (by omega)]
      refine iteT ?_
      refine ⟨_, rfl, r, _, dx, _, _, rfl, g, T.cl, T.aAt, rf_at, ?_⟩
      exact no_read fun d H4 s4 dn na => out k d H4 (F.du.bad (by rw [en.2 c l rfl, show st.op = 0 from F.op]; exact beh_out)) (I.sm.trans s4) na
  | cons ds fs =>
    have hf := I.fr
    cases hf with
    | @cons l ls vs _ _ h1 h2 h3 h4 h5 h6 =>
    have un := I.un
    rw [List.map_cons, List.reverse_cons] at un
    refine ⟨_, rfl, r, _, dx, _, _, rfl, g, T.cl, T.aUnclosed, rf_unclosed, true, .inl ⟨_, SqL.of un, by simp⟩, ?_⟩
    refine ⟨fun σ' H'' => ∃ m', m' < rest.length ∧ ∃ fs rest, σ' = [some (.ref r)] ∧ RSt (ad .Reader) H0 H'' r u z rest fs ∧ m' = rest.length, fun _ _ z => z, ?_⟩
    exact ⟨_, rfl, r, dx, _, rfl, g, rf_go_on, H0, r, u, z, rest, ds :: fs, rfl, ⟨k, many, res, dx, l :: ls, st, I, F, rd⟩, (by intro e; cases e), out, fun H' fs' rest' st' lt => ⟨_, lt, fs', rest', rfl, st', rfl⟩⟩
end
end TK
namespace TK
open PySem L2
/-! ### a reader is made, a tree is read -/
def spRI (C : Addr) : Sp := fun vs H Q _ => ∃ (r dx : Addr) (z : List Nat), vs = [.ref r, .str (S z), .int 2000, .int 30] ∧ H r = some (.ins C dx []) ∧
  ∀ (H' : Hp) (u : Addr), But r H H' → H u = none → H' r = some (.ins C dx (rf z 0 0 u .non)) → H' u = some (.lst []) → Q .non H'
/-- a text, or what is none -/
def spRT (K : PySem.W.Frag) (CN : Addr) : Sp := fun vs H Q E =>
  (∃ z : List Nat, vs = [.str (S z)] ∧ z.length ≤ sizeLine ∧ Out CN H z E ∧ ∀ (x : V) (H' : Hp), Same H H' → IsText H' x z → verd ⟨.part, 0, 0⟩ z = none → Q x H') ∨
  (∃ (v : V) (n : String), vs = [v] ∧ TyX K H v (.type n) ∧ PySem.W.kitOne K (.type n) (.type "str") = some false ∧ ∀ (d : Addr) (H' : Hp), Same H H' → NoAt H' d 0 → E (.ref CN) (some d) H')
section
variable {P : Program} {w : World} {K : PySem.W.Frag} {mg : Str → Option Value} {base : Heap} {ad : Nm → Addr} {dd : Nm → FuncData}
theorem scRI : FnScope ["self", "text", "most_parts", "most_deep"] ["self", "text", "most_parts", "most_deep"] (defScope sRI) := ⟨rfl, rfl, rfl, by decide +kernel, rfl, by decide +kernel, by decide +kernel⟩
theorem scRT : FnScope ["text"] ["text"] (defScope sRT) := ⟨rfl, rfl, rfl, by decide +kernel, rfl, by decide +kernel, by decide +kernel⟩
theorem ok_ri (T : Txt K mg ad dd) : FnOk P w K mg base CX0 1 (ad .RI) (dd .RI) ["self", "text", "most_parts", "most_deep"] (spRI (ad .Reader)) := by
  refine T.RI.F.ok scRI (fun vs H Q E h => ?_) (fun cdv A outer s H vs Q E hr h => ?_)
  · obtain ⟨r, dx, z, rfl, _⟩ := h
    rfl
  obtain ⟨r, dx, z, rfl, g, q⟩ := h
  refine ⟨_, (pss_cons (ps_fld (pv 0) (pv 1) rfl)
      (pss_cons (ps_fld (pv 0) (pv 2) rfl)
      (pss_cons (ps_fld (pv 0) (pv 3) rfl)
      (pss_cons (ps_fld (pv 0) pe_int rfl)
      (pss_cons (ps_fld (pv 0) pe_int rfl)
      (pss_cons (ps_fld (pv 0) (pe_lst pa_nil) rfl)
      (pss_one (ps_fld (pv 0) pe_non rfl)))))))), ?_⟩
  have s1 : ∀ {fl : List (Str × V)}, But r H (upd H r (.ins (ad .Reader) dx fl)) := But.put
  have g1 : ∀ {fl : List (Str × V)}, (upd H r (.ins (ad .Reader) dx fl)) r = some (.ins (ad .Reader) dx fl) := upd_same
  refine ⟨_, rfl, _, rfl, r, _, dx, _, rfl, g, T.cl, T.aText, (by show 0 < 1000; decide), ?_⟩
  rw [pf_nil]
  refine ⟨_, rfl, _, rfl, r, _, dx, _, rfl, g1, T.cl, T.aMost_parts, (by show 1 < 1000; decide), ?_⟩
  rw [upd_upd, pf_miss n_text_most_parts, pf_nil]
  refine ⟨_, rfl, _, rfl, r, _, dx, _, rfl, g1, T.cl, T.aMost_deep, (by show 2 < 1000; decide), ?_⟩
  rw [upd_upd, pf_miss n_text_most_deep, pf_miss n_most_parts_most_deep, pf_nil]
  refine ⟨_, rfl, r, _, dx, _, rfl, g1, T.cl, T.aAt, (by show 3 < 1000; decide), ?_⟩
  rw [upd_upd, pf_miss n_text_at, pf_miss n_most_parts_at, pf_miss n_most_deep_at, pf_nil]
  refine ⟨_, rfl, r, _, dx, _, rfl, g1, T.cl, T.aMany, (by show 4 < 1000; decide), ?_⟩
  rw [upd_upd, pf_miss n_text_many, pf_miss n_most_parts_many, pf_miss n_most_deep_many, pf_miss n_at_many, pf_nil]
  refine ⟨Nat.zero_le _, fun u hu => ?_⟩
  have nru : r ≠ u := ne_of_none g1 hu
  have hu0 : H u = none := by rw [upd_ne nru.symm] at hu; exact hu
  refine ⟨_, rfl, r, _, dx, _, rfl, (by rw [upd_ne nru]; exact g1), T.cl, T.aUnclosed, (by show 5 < 1000; decide), ?_⟩
  rw [pf_miss n_text_unclosed, pf_miss n_most_parts_unclosed, pf_miss n_most_deep_unclosed, pf_miss n_at_unclosed, pf_miss n_many_unclosed, pf_nil]
  refine ⟨_, rfl, r, _, dx, _, rfl, upd_same, T.cl, T.aResult, (by show 6 < 1000; decide), ?_⟩
  rw [upd_upd, pf_miss n_text_result, pf_miss n_most_parts_result, pf_miss n_most_deep_result, pf_miss n_at_result, pf_miss n_many_result, pf_miss n_unclosed_result, pf_nil]
  refine q _ u (fun b o n e => ?_) hu0 upd_same ?_
  · rw [upd_ne n, upd_ne (ne_of_none e hu0), upd_ne n]; exact e
  · rw [upd_ne nru.symm, upd_same]
theorem ok_rt (T : Txt K mg ad dd) : FnOk P w K mg base (L2.CX P w) 7 (ad .RT) (dd .RT) ["text"] (spRT K (ad .NoText)) := by
  have GRI := ok_ri (P := P) (w := w) (base := base) T
  have GRW := ok_rw (P := P) (w := w) (base := base) T
  refine T.RT.F.okX scRT (fun vs H Q E h => ?_) (fun cdv A outer s H vs Q E hr h => ?_)
  · rcases h with ⟨z, rfl, _⟩ | ⟨v, n, rfl, _⟩ <;> rfl
  refine ⟨_, (pss_cons (ps_if (pt_not (pt_val (pe_callB call_isi (by rfl) T.n_isinstance bt_isinstance (pa_cons (pv 0) (pa_cons (pe_bltn (v := .ty "str") rfl T.n_str bt_str rfl) pa_nil))) (fun _ => rfl))) (pss_one (ps_no T (hr.mono (by first | decide | omega)) rfl (takes_of rfl rfl rfl rfl) rfl pe_int)) pss_nil)
      (pss_one (ps_ret (pe_meth0 (pe_make T.mkR GRI (hr.mono (by first | decide | omega)) rfl T.mgReader T.RI.b .nil pass0 (pa_cons (pv 0) (pa_cons (pe_gint rfl T.gMOST_PARTS) (pa_cons (pe_gint rfl T.gMOST_DEEP) pa_nil)))) T.cl T.RW.M GRW (hr.mono (by first | decide | omega)) T.RW.b .nil (passes_call (takes_of rfl rfl rfl rfl) fun _ _ _ _ z => z))))), ?_⟩
  rcases h with ⟨z, rfl, zl, out, q⟩ | ⟨v, n, rfl, ty, kt, out⟩
  · refine ⟨_, rfl, _, _, _, _, true, rfl, .ty _, .base (.str _), k_ss, _, rfl, iteF ?_⟩
    refine ⟨_, rfl, fun r dx hr0 hdx ne => ?_⟩
    have nrd : r ≠ dx := fun e => ne e.symm
    refine ⟨r, dx, z, rfl, upd_same, fun H' u b hu h1 h2 => ⟨rfl, ?_⟩⟩
    have sm : Same H H' := fun a o e => b a o (ne_of_none e hr0) (by rw [upd_ne (ne_of_none e hr0), upd_ne (ne_of_none e hdx)]; exact e)
    have u0 : H u = none := by
      have n1 : u ≠ r := fun e => by rw [e, upd_same] at hu; cases hu
      have n2 : u ≠ dx := fun e => by rw [upd_ne n1, e, upd_same] at hu; cases hu
      rw [upd_ne n1, upd_ne n2] at hu
      exact hu
    refine ⟨r, dx, _, rfl, h1, rf_whole, H, r, u, z, rfl, ⟨0, 0, .non, dx, [], ⟨.part, 0, 0⟩, ⟨⟨h1, rfl, zl⟩, hr0, u0, sm, h2, .nil, True.intro⟩, ⟨?_, rfl, rfl, by decide⟩, rfl, .inl rfl, by decide⟩, out, q⟩
    show verd ⟨.part, 0, 0⟩ z = (verd ⟨.part, 0, 0⟩ z).map (· + 0)
    cases verd ⟨.part, 0, 0⟩ z <;> rfl
  · refine ⟨_, rfl, _, _, _, _, false, rfl, .ty _, ty, kt, _, rfl, iteT ?_⟩
    exact no_read fun d H4 s4 dn na => out d H4 s4 na
end
end TK
namespace TK
open PySem L2
/-! ### where the law's own walk stands: a dict of four words -/
theorem nmo : ¬ (Sum.inr ("mode" : Str) : Key) = Sum.inr ("open" : Str) := by decide +kernel
theorem nmp : ¬ (Sum.inr ("mode" : Str) : Key) = Sum.inr ("parts" : Str) := by decide +kernel
theorem nmr : ¬ (Sum.inr ("mode" : Str) : Key) = Sum.inr ("rest" : Str) := by decide +kernel
theorem nop : ¬ (Sum.inr ("open" : Str) : Key) = Sum.inr ("parts" : Str) := by decide +kernel
theorem nor' : ¬ (Sum.inr ("open" : Str) : Key) = Sum.inr ("rest" : Str) := by decide +kernel
theorem npr' : ¬ (Sum.inr ("parts" : Str) : Key) = Sum.inr ("rest" : Str) := by decide +kernel
def hkv (m o p r : V) : List (Key × V) := [(Sum.inr ("mode" : Str), m), (Sum.inr ("open" : Str), o), (Sum.inr ("parts" : Str), p), (Sum.inr ("rest" : Str), r)]
section
variable {H : Hp} {d : Addr} {m o p r v : V}
theorem hv_mode : valV (hkv m o p r) (Sum.inr ("mode" : Str)) = some m := valV_pos rfl
theorem hv_open : valV (hkv m o p r) (Sum.inr ("open" : Str)) = some o := (valV_neg nmo).trans (valV_pos rfl)
theorem hv_parts : valV (hkv m o p r) (Sum.inr ("parts" : Str)) = some p := (valV_neg nmp).trans ((valV_neg nop).trans (valV_pos rfl))
theorem hv_rest : valV (hkv m o p r) (Sum.inr ("rest" : Str)) = some r := (valV_neg nmr).trans ((valV_neg nor').trans ((valV_neg npr').trans (valV_pos rfl)))
theorem hu_mode : putK (hkv m o p r) (Sum.inr ("mode" : Str)) v = hkv v o p r := by
  have e : (hkv m o p r).any (fun kv => decide (kv.1 = (Sum.inr ("mode" : Str) : Key))) = true := by rw [valV_any, hv_mode]; rfl
  unfold putK
  rw [if_pos e]
  simp only [hkv, List.map_cons, List.map_nil, if_pos, if_neg (Ne.symm nmo), if_neg (Ne.symm nmp), if_neg (Ne.symm nmr)]
theorem hu_open : putK (hkv m o p r) (Sum.inr ("open" : Str)) v = hkv m v p r := by
  have e : (hkv m o p r).any (fun kv => decide (kv.1 = (Sum.inr ("open" : Str) : Key))) = true := by rw [valV_any, hv_open]; rfl
  unfold putK
  rw [if_pos e]
  simp only [hkv, List.map_cons, List.map_nil, if_pos, if_neg nmo, if_neg (Ne.symm nop), if_neg (Ne.symm nor')]
theorem hu_parts : putK (hkv m o p r) (Sum.inr ("parts" : Str)) v = hkv m o v r := by
  have e : (hkv m o p r).any (fun kv => decide (kv.1 = (Sum.inr ("parts" : Str) : Key))) = true := by rw [valV_any, hv_parts]; rfl
  unfold putK
  rw [if_pos e]
  simp only [hkv, List.map_cons, List.map_nil, if_pos, if_neg nmp, if_neg nop, if_neg (Ne.symm npr')]
theorem hu_rest : putK (hkv m o p r) (Sum.inr ("rest" : Str)) v = hkv m o p v := by
  have e : (hkv m o p r).any (fun kv => decide (kv.1 = (Sum.inr ("rest" : Str) : Key))) = true := by rw [valV_any, hv_rest]; rfl
  unfold putK
  rw [if_pos e]
  simp only [hkv, List.map_cons, List.map_nil, if_pos, if_neg nmr, if_neg nor', if_neg npr']
theorem hg_mode (h : H d = some (.dK (hkv m o p r))) : DGet H d (.str "mode") (some m) := .inl ⟨_, Sum.inr ("mode" : Str), .inl h, rfl, hv_mode.symm⟩
theorem hg_open (h : H d = some (.dK (hkv m o p r))) : DGet H d (.str "open") (some o) := .inl ⟨_, Sum.inr ("open" : Str), .inl h, rfl, hv_open.symm⟩
theorem hg_parts (h : H d = some (.dK (hkv m o p r))) : DGet H d (.str "parts") (some p) := .inl ⟨_, Sum.inr ("parts" : Str), .inl h, rfl, hv_parts.symm⟩
theorem hg_rest (h : H d = some (.dK (hkv m o p r))) : DGet H d (.str "rest") (some r) := .inl ⟨_, Sum.inr ("rest" : Str), .inl h, rfl, hv_rest.symm⟩
theorem hp_mode (h : H d = some (.dK (hkv m o p r))) (v : V) : DPut H d (.str "mode") v (upd H d (.dK (hkv v o p r))) := .inl ⟨_, Sum.inr ("mode" : Str), h, rfl, (by show 4 < sizeLine; decide), by rw [hu_mode]⟩
theorem hp_open (h : H d = some (.dK (hkv m o p r))) (v : V) : DPut H d (.str "open") v (upd H d (.dK (hkv m v p r))) := .inl ⟨_, Sum.inr ("open" : Str), h, rfl, (by show 4 < sizeLine; decide), by rw [hu_open]⟩
theorem hp_parts (h : H d = some (.dK (hkv m o p r))) (v : V) : DPut H d (.str "parts") v (upd H d (.dK (hkv m o v r))) := .inl ⟨_, Sum.inr ("parts" : Str), h, rfl, (by show 4 < sizeLine; decide), by rw [hu_parts]⟩
theorem hp_rest (h : H d = some (.dK (hkv m o p r))) (v : V) : DPut H d (.str "rest") v (upd H d (.dK (hkv m o p v))) := .inl ⟨_, Sum.inr ("rest" : Str), h, rfl, (by show 4 < sizeLine; decide), by rw [hu_rest]⟩
end
def mdN : Md → Str
  | .part => "part"
  | .first => "first"
  | .minus => "minus"
  | .fin => "end"
  | .str => "string"
  | .esc => "escape"
  | .word _ => "word"
  | .digs _ => "digits"
/-- what the rest must be -/
def rsOk : Md → V → Prop
  | .word l, v => v = .str (S l) ∧ l.length ≤ 5 ∧ l ≠ []
  | .digs r, v => v = .int (r : Int)
  | _, _ => True
/-- the walk stands at s -/
def At (H : Hp) (d : Addr) (s : Sta) : Prop := ∃ rv, H d = some (.dK (hkv (.str (mdN s.md)) (.int (s.op : Int)) (.int (s.pa : Int)) rv)) ∧ rsOk s.md rv
/-- the walk goes on to s', or it doesn't -/
def Goes (H : Hp) (d : Addr) (r : Option Sta) (Q : VK) : Prop := ∀ H' : Hp, But d H H' → match r with
  | some s' => At H' d s' → Q (.bl true) H'
  | none => (∃ o, H' d = some o) → Q (.bl false) H'
def spBeh : Sp := fun vs H Q _ => ∃ (d : Addr) (c o p : Nat) (m rv : V), vs = [.ref d, .str (S [c])] ∧ H d = some (.dK (hkv m (.int (o : Int)) (.int (p : Int)) rv)) ∧ Goes H d (beh o p c) Q
section
variable {P : Program} {w : World} {K : PySem.W.Frag} {mg : Str → Option Value} {base : Heap} {ad : Nm → Addr} {dd : Nm → FuncData}
theorem scBeh : FnScope ["_law_here", "_law_sign"] ["_law_here", "_law_sign"] (defScope sBeh) := ⟨rfl, rfl, rfl, by decide +kernel, rfl, by decide +kernel, by decide +kernel⟩
theorem ok_beh (T : Txt K mg ad dd) : FnOk P w K mg base CX0 1 (ad .Beh) (dd .Beh) ["_law_here", "_law_sign"] spBeh := by
  refine T.Beh.F.ok scBeh (fun vs H Q E h => ?_) (fun cdv A outer s H vs Q E hr h => ?_)
  · obtain ⟨d, c, o, p, m, rv, rfl, _⟩ := h
    rfl
  obtain ⟨d, c, o, p, m, rv, rfl, hd, q⟩ := h
  have hu := hu_of hr
  refine ⟨_, (pss_cons (ps_if (PW.pt (pw_and (pt_cmpR op_eq (pv 1) pe_str (nomark _)) (pw_and (pt_cmpR op_gt (pe_dget hu (pv 0) pe_str (fun _ _ => rfl)) pe_int (nomark _)) (pw_and1 (pt_cmpR op_lt (pe_dget hu (pv 0) pe_str (fun _ _ => rfl)) pe_int (nomark _)))))) (pss_cons (ps_dput hu (pv 0) pe_str pe_str rfl)
      (pss_one (ps_ret pe_bl))) pss_nil)
      (pss_cons (ps_asg (pe_tup (pa_cons (pe_op op_sub (pe_dget hu (pv 0) pe_str (fun _ _ => rfl)) pe_int) (pa_cons pe_str pa_nil))) (pg_tup rfl (pgs_cons (pg_sub (pv 0) pe_str (set_dict hu)) (pgs_cons (pg_sub (pv 0) pe_str (set_dict hu)) pgs_nil))))
      (pss_one (ps_ret (pe_and (pe_cmpR op_eq (pv 1) pe_str (nomark _)) (pe_one (pe_cmpR op_ge (pe_dget hu (pv 0) pe_str (fun _ _ => rfl)) pe_int (nomark _)))))))), ?_⟩
  have tail : ¬ (c = 32 ∧ 0 < o ∧ p < 2000) → tSeq (tAsg (tTup (tCons (tOp (rI0 fun i j => .int (i - j)) (tDGet (tVar 0) (tC (.str "open"))) (tC (.int 1))) (tCons (tC (.str "end")) tNil)))
      (gTup K 2 (gCons (gSub (tVar 0) (tC (.str "open")) rSetD) (gCons (gSub (tVar 0) (tC (.str "mode")) rSetD) gNil))))
      (tRet (tAndV (tOp rEq (tVar 1) (tC (.str ")"))) (tOp (rI0 fun i j => .bl (decide (i ≥ j))) (tDGet (tVar 0) (tC (.str "open"))) (tC (.int 0))))) { nx := fun _ H' => Q .non H', rt := Q } [some (.ref d), some (.str (S [c]))] H := by
    intro hn
    refine ⟨_, rfl, d, _, rfl, hg_open hd, _, _, rfl, rfl, (by show 2 ≤ sizeLine; decide), fun t ht => ?_⟩
    have s1 := same_new ht (.tup [.int ((o : Int) - 1), .str "end"])
    have T1 : (upd H t (.tup [.int ((o : Int) - 1), .str "end"])) t = some (.tup [.int ((o : Int) - 1), .str "end"]) := upd_same
    have hd1 := s1 _ _ hd
    generalize upd H t (.tup [.int ((o : Int) - 1), .str "end"]) = H1 at s1 T1 hd1
    refine ⟨t, _, rfl, SqT.of T1, rfl, _, _, rfl, _, rfl, d, _, rfl, hp_open hd1 _, _, _, rfl, _, rfl, d, _, rfl, hp_mode upd_same _, rfl, ?_⟩
    rw [upd_upd]
    have bt : But d H (upd H1 d (.dK (hkv (.str "end") (.int ((o : Int) - 1)) (.int (p : Int)) rv))) := But.trans (But.of_same s1) But.put
    refine ⟨_, rfl, rfl, _, rfl, ?_⟩
    rw [e41]
    have g := q _ bt
    by_cases c41 : c = 41
    · subst c41
      rw [str_eq]
      refine iteT ⟨_, rfl, d, _, rfl, hg_open upd_same, _, _, rfl, rfl, ?_⟩
      by_cases h0 : 0 < o
      · have hb : beh o p 41 = some ⟨.fin, o - 1, p⟩ := by
          unfold beh
          rw [if_neg (by omega), if_pos ⟨rfl, h0⟩]
        rw [hb] at g
        show Q (.bl (decide ((o : Int) - 1 ≥ 0))) _
        rw [decide_eq_true (by omega)]
        refine g ⟨rv, ?_, True.intro⟩
        rw [upd_same]
        show _ = some (HO.dK (hkv (.str "end") (.int ((o - 1 : Nat) : Int)) (.int (p : Int)) rv))
        rw [show ((o - 1 : Nat) : Int) = (o : Int) - 1 by omega]
      · have hb : beh o p 41 = none := by
          unfold beh
          rw [if_neg (by omega), if_neg (by omega)]
        rw [hb] at g
        show Q (.bl (decide ((o : Int) - 1 ≥ 0))) _
        rw [decide_eq_false (by omega)]
        exact g ⟨_, upd_same⟩
    · have hb : beh o p c = none := by
        unfold beh
        rw [if_neg hn, if_neg (by omega)]
      rw [hb] at g
      rw [str_ne (by intro q; exact c41 (List.cons.inj q).1)]
      exact iteF (g ⟨_, upd_same⟩)
  refine ⟨_, rfl, rfl, _, rfl, ?_⟩
  rw [e32]
  by_cases c32 : c = 32
  · subst c32
    rw [str_eq]
    refine iteT ⟨_, rfl, d, _, rfl, hg_open hd, _, _, rfl, rfl, _, rfl, ?_⟩
    refine ite2 (fun h0 => ⟨_, rfl, d, _, rfl, hg_parts hd, _, _, rfl, rfl, _, rfl, ?_⟩) (fun h0 => iteF (tail ?_))
    · refine ite2 (fun h1 => ⟨_, rfl, d, _, rfl, hp_mode hd _, ?_⟩) (fun h1 => tail ?_)
      · have h0' : (0 : Int) < (o : Int) := of_decide_eq_true h0
        have h1' : (p : Int) < 2000 := of_decide_eq_true h1
        have g := q _ (But.put (o := .dK (hkv (.str "part") (.int (o : Int)) (.int (p : Int)) rv)))
        rw [beh_space (by omega) (by omega)] at g
        exact g ⟨rv, upd_same, True.intro⟩
      · have h1' : ¬ (p : Int) < 2000 := of_decide_eq_false (Bool.eq_false_iff.mpr h1)
        omega
    · have h0' : ¬ (0 : Int) < (o : Int) := of_decide_eq_false (Bool.eq_false_iff.mpr h0)
      omega
  · rw [str_ne (by intro q; exact c32 (List.cons.inj q).1)]
    exact iteF (iteF (tail (by omega)))
end
end TK
namespace TK
open PySem L2
/-! ### a part begins -/
theorem k4045 : ¬ (Sum.inr (S [40]) : Key) = Sum.inr (S [45]) := by decide
theorem k4048 : ¬ (Sum.inr (S [40]) : Key) = Sum.inr (S [48]) := by decide
theorem k4548 : ¬ (Sum.inr (S [45]) : Key) = Sum.inr (S [48]) := by decide
theorem k12110 : ¬ (Sum.inr (S [121]) : Key) = Sum.inr (S [110]) := by decide
def kv3 : List (Key × V) := [(Sum.inr (S [40]), .str "first"), (Sum.inr (S [45]), .str "minus"), (Sum.inr (S [48]), .str "end")]
def kv2 : List (Key × V) := [(Sum.inr (S [121]), .str "es"), (Sum.inr (S [110]), .str "o")]
theorem merge3 : mergeK [] kv3 = kv3 := by
  unfold mergeK kv3
  simp only [List.foldl_cons, List.foldl_nil, putK, List.any_nil, List.any_cons, List.nil_append, Bool.false_eq_true, if_false, Bool.or_false, decide_eq_true_eq, k4045, k4048, k4548, List.cons_append, Bool.or_eq_true, or_self]
theorem merge2 : mergeK [] kv2 = kv2 := by
  unfold mergeK kv2
  simp only [List.foldl_cons, List.foldl_nil, putK, List.any_nil, List.any_cons, List.nil_append, Bool.false_eq_true, if_false, Bool.or_false, decide_eq_true_eq, k12110, List.cons_append, Bool.or_eq_true, or_self]
theorem key_ne {c x : Nat} (h : x ≠ c) : ¬ (Sum.inr (S [x]) : Key) = Sum.inr (S [c]) := fun e => h (List.cons.inj (S_inj.mp (Sum.inr.inj e))).1
def m3 (c : Nat) : Str := if c = 40 then "first" else if c = 45 then "minus" else "end"
theorem val3 (c : Nat) : (valV kv3 (Sum.inr (S [c]))).getD (.str "end") = .str (m3 c) := by
  unfold kv3 m3
  by_cases h1 : c = 40
  · subst h1; rw [valV_pos rfl, if_pos rfl]; rfl
  · rw [valV_neg (key_ne (Ne.symm h1)), if_neg h1]
    by_cases h2 : c = 45
    · subst h2; rw [valV_pos rfl, if_pos rfl]; rfl
    · rw [valV_neg (key_ne (Ne.symm h2)), if_neg h2]
      by_cases h3 : c = 48
      · subst h3; rw [valV_pos rfl]; rfl
      · rw [valV_neg (key_ne (Ne.symm h3))]; rfl
def spBeg : Sp := fun vs H Q _ => ∃ (d : Addr) (c o p : Nat) (m rv : V), vs = [.ref d, .str (S [c])] ∧ H d = some (.dK (hkv m (.int (o : Int)) (.int (p : Int)) rv)) ∧ Goes H d (beg o p c) Q
theorem e19 : Str.ofString "123456789" = S [49, 50, 51, 52, 53, 54, 55, 56, 57] := by decide +kernel
theorem ebeg : Str.ofString "(-0123456789\"yn" = S [40, 45, 48, 49, 50, 51, 52, 53, 54, 55, 56, 57, 34, 121, 110] := by decide +kernel
theorem ees : Str.ofString "es" = S [101, 115] := by decide +kernel
theorem eo' : Str.ofString "o" = S [111] := by decide +kernel
theorem in19 (c : Nat) : decide (c ∈ (S [49, 50, 51, 52, 53, 54, 55, 56, 57]).cps.toList) = decide (49 ≤ c ∧ c ≤ 57) := by
  apply decide_eq_decide.mpr
  show c ∈ [49, 50, 51, 52, 53, 54, 55, 56, 57] ↔ _
  simp only [List.mem_cons, List.not_mem_nil, or_false]
  omega
theorem inbeg (c : Nat) : decide (c ∈ (S [40, 45, 48, 49, 50, 51, 52, 53, 54, 55, 56, 57, 34, 121, 110]).cps.toList) = (begMd c).isSome := by
  have e : (c ∈ (S [40, 45, 48, 49, 50, 51, 52, 53, 54, 55, 56, 57, 34, 121, 110]).cps.toList) ↔ (begMd c).isSome = true := by
    show c ∈ [40, 45, 48, 49, 50, 51, 52, 53, 54, 55, 56, 57, 34, 121, 110] ↔ _
    unfold begMd
    simp only [List.mem_cons, List.not_mem_nil, or_false]
    repeat (split; · (constructor <;> intro _ <;> first | rfl | omega))
    constructor
    · intro h; omega
    · intro h; cases h
  by_cases h : (begMd c).isSome = true
  · rw [decide_eq_true (e.mpr h), h]
  · rw [decide_eq_false (fun z => h (e.mp z)), Bool.eq_false_iff.mpr h]
def m4 (c : Nat) : Str := if c = 34 then "string" else m3 c
def m5 (c : Nat) : Str := if c = 121 ∨ c = 110 then "word" else m4 c
def r5 (c : Nat) (rv : V) : V := if c = 121 then .str (S [101, 115]) else if c = 110 then .str (S [111]) else rv
def m6 (c : Nat) : Str := if 49 ≤ c ∧ c ≤ 57 then "digits" else m5 c
def r6 (c : Nat) (rv : V) : V := if 49 ≤ c ∧ c ≤ 57 then .int 99 else r5 c rv
theorem beg_at {c : Nat} {md : Md} {rv : V} (h : begMd c = some md) : m6 c = mdN md ∧ rsOk md (r6 c rv) := by
  unfold begMd at h
  unfold m6 r6 m5 r5 m4 m3
  repeat (first
    | (split at h; · (cases h; rename_i hc; first
        | (subst hc; exact ⟨rfl, True.intro⟩)
        | (subst hc; exact ⟨rfl, rfl, by decide, by decide⟩)
        | (rw [if_pos hc, if_pos hc]; exact ⟨rfl, rfl⟩)))
    | cases h)
section
variable {P : Program} {w : World} {K : PySem.W.Frag} {mg : Str → Option Value} {base : Heap} {ad : Nm → Addr} {dd : Nm → FuncData}
theorem scBeg : FnScope ["_law_here", "_law_sign"] ["_law_here", "_law_sign"] (defScope sBeg) := ⟨rfl, rfl, rfl, by decide +kernel, rfl, by decide +kernel, by decide +kernel⟩
theorem ok_beg (T : Txt K mg ad dd) : FnOk P w K mg base CX0 1 (ad .Beg) (dd .Beg) ["_law_here", "_law_sign"] spBeg := by
  refine T.Beg.F.ok scBeg (fun vs H Q E h => ?_) (fun cdv A outer s H vs Q E hr h => ?_)
  · obtain ⟨d, c, o, p, m, rv, rfl, _⟩ := h
    rfl
  obtain ⟨d, c, o, p, m, rv, rfl, hd, q⟩ := h
  have hu := hu_of hr
  refine ⟨_, (pss_cons (ps_if (PW.pt (pw_or (pt_cmpR op_gt (pe_dget hu (pv 0) pe_str (fun _ _ => rfl)) pe_int (nomark _)) (pw_or1 (pt_cmpR op_gt (pe_dget hu (pv 0) pe_str (fun _ _ => rfl)) pe_int (nomark _))))) (pss_one (ps_ret pe_bl)) pss_nil)
      (pss_cons (ps_asg (pe_tup (pa_cons (pe_op op_add (pe_dget hu (pv 0) pe_str (fun _ _ => rfl)) pe_int) (pa_cons (pe_dget2 hu (pe_disp (pps_cons pe_str pe_str (pps_cons pe_str pe_str (pps_cons pe_str pe_str pps_nil))) rfl rfl (by simp) (by decide)) (pv 1) pe_str ⟨rfl, rfl, rfl, rfl⟩) pa_nil))) (pg_tup rfl (pgs_cons (pg_sub (pv 0) pe_str (set_dict hu)) (pgs_cons (pg_sub (pv 0) pe_str (set_dict hu)) pgs_nil))))
      (pss_cons (ps_dput hu (pv 0) pe_str (pe_op op_add (pe_dget hu (pv 0) pe_str (fun _ _ => rfl)) (pe_callTy call_int1 (by rfl) T.n_int bt_int (pa_cons (pe_cmpR op_eq (pv 1) pe_str (nomark _)) pa_nil))) rfl)
      (Evl.pss_cut (ps_if (pt_cmpR op_eq (pv 1) pe_str (nomark _)) (pss_one (ps_dput hu (pv 0) pe_str pe_str rfl)) pss_nil)
      (Evl.pss_cut (ps_if (pt_cmpR op_in_seq (pv 1) (pe_tup (pa_cons pe_str (pa_cons pe_str pa_nil))) (by with_unfolding_all rfl)) (pss_one (ps_asg (pe_tup (pa_cons pe_str (pa_cons (pe_dget hu (pe_disp (pps_cons pe_str pe_str (pps_cons pe_str pe_str pps_nil)) rfl rfl (by simp) (by decide)) (pv 1) (fun _ _ => rfl)) pa_nil))) (pg_tup rfl (pgs_cons (pg_sub (pv 0) pe_str (set_dict hu)) (pgs_cons (pg_sub (pv 0) pe_str (set_dict hu)) pgs_nil))))) pss_nil)
      (Evl.pss_cut (ps_if (pt_cmpR op_in_sign (pv 1) pe_str (by with_unfolding_all rfl)) (pss_one (ps_asg (pe_tup (pa_cons pe_str (pa_cons pe_int pa_nil))) (pg_tup rfl (pgs_cons (pg_sub (pv 0) pe_str (set_dict hu)) (pgs_cons (pg_sub (pv 0) pe_str (set_dict hu)) pgs_nil))))) pss_nil)
      (pss_one (ps_ret (pe_cmpR op_in_sign (pv 1) pe_str (by with_unfolding_all rfl)))))))))), ?_⟩
  refine ⟨_, rfl, d, _, rfl, hg_open hd, _, _, rfl, rfl, _, rfl, ?_⟩
  have none1 : (29 < o ∨ 1999 < p) → Q (.bl false) H := fun h => by
    have g := q H (But.refl _ _)
    rw [show beg o p c = none by unfold beg; rw [if_pos h]] at g
    exact g ⟨_, hd⟩
  refine ite2 (fun h => iteT (none1 (.inl (by have := of_decide_eq_true h; omega)))) (fun h => ⟨_, rfl, d, _, rfl, hg_parts hd, _, _, rfl, rfl, _, rfl, ?_⟩)
  refine ite2 (fun h2 => none1 (.inr (by have := of_decide_eq_true h2; omega))) (fun h2 => ?_)
  have h' : ¬ (29 : Int) < (o : Int) := of_decide_eq_false (Bool.eq_false_iff.mpr h)
  have h2' : ¬ (1999 : Int) < (p : Int) := of_decide_eq_false (Bool.eq_false_iff.mpr h2)
  have hb : beg o p c = (begMd c).map fun m => (⟨m, if c = 40 then o + 1 else o, p + 1⟩ : Sta) := by
    unfold beg
    rw [if_neg (by omega)]
  rw [e40, e45, e48, e34, e121, e110, e19, ebeg]
  refine ⟨_, rfl, d, _, rfl, hg_parts hd, _, _, rfl, rfl, ?_⟩
  intro d0 hd0
  refine ⟨upd_same, kv3, rfl, (by show 3 ≤ 15; decide), ?_⟩
  rw [merge3, upd_upd]
  have s0 := same_new hd0 (.dK kv3)
  have D0 : (upd H d0 (.dK kv3)) d0 = some (.dK kv3) := upd_same
  have hd1 := s0 _ _ hd
  generalize upd H d0 (.dK kv3) = H1 at s0 D0 hd1
  refine ⟨d0, rfl, .inl ⟨_, .inl D0⟩, _, rfl, _, DGet.k D0 (k := Sum.inr (S [c])), ?_⟩
  rw [val3]
  refine ⟨(by show 2 ≤ sizeLine; decide), fun t ht => ?_⟩
  have s1 := same_new ht (.tup [.int ((p : Int) + 1), .str (m3 c)])
  have T1 : (upd H1 t (.tup [.int ((p : Int) + 1), .str (m3 c)])) t = some (.tup [.int ((p : Int) + 1), .str (m3 c)]) := upd_same
  have hd2 := s1 _ _ hd1
  generalize upd H1 t (.tup [.int ((p : Int) + 1), .str (m3 c)]) = H2 at s1 T1 hd2
  refine ⟨t, _, rfl, SqT.of T1, rfl, _, _, rfl, _, rfl, d, _, rfl, hp_parts hd2 _, _, _, rfl, _, rfl, d, _, rfl, hp_mode upd_same _, rfl, ?_⟩
  rw [upd_upd]
  have b3 : But d H (upd H2 d (.dK (hkv (.str (m3 c)) (.int (o : Int)) (.int ((p : Int) + 1)) rv))) := But.trans (But.of_same (s0.trans s1)) But.put
  have D3 : (upd H2 d (.dK (hkv (.str (m3 c)) (.int (o : Int)) (.int ((p : Int) + 1)) rv))) d = some (.dK (hkv (.str (m3 c)) (.int (o : Int)) (.int ((p : Int) + 1)) rv)) := upd_same
  generalize upd H2 d (.dK (hkv (.str (m3 c)) (.int (o : Int)) (.int ((p : Int) + 1)) rv)) = H3 at b3 D3
  -- open
  have eo : (o : Int) + (if decide (V.str (S [c]) = V.str (S [40])) = true then 1 else 0) = ((if c = 40 then o + 1 else o : Nat) : Int) := by
    by_cases h : c = 40
    · subst h; rw [str_eq, if_pos rfl, if_pos rfl]; omega
    · rw [str_ne (by intro q; exact h (List.cons.inj q).1), if_neg (by decide), if_neg h]; omega
  have dpo : DPut H3 d (.str "open") (.int ((o : Int) + (if decide (V.str (S [c]) = V.str (S [40])) = true then 1 else 0))) (upd H3 d (.dK (hkv (.str (m3 c)) (.int ((if c = 40 then o + 1 else o : Nat) : Int)) (.int ((p : Int) + 1)) rv))) := by
    rw [eo]
    exact hp_open D3 _
  refine ⟨_, rfl, d, _, rfl, hg_open D3, _, rfl, rfl, .inr ⟨_, rfl, _, _, rfl, rfl, _, rfl, d, _, rfl, dpo, ?_⟩⟩
  have b4 : But d H (upd H3 d (.dK (hkv (.str (m3 c)) (.int ((if c = 40 then o + 1 else o : Nat) : Int)) (.int ((p : Int) + 1)) rv))) := But.trans b3 But.put
  have D4 : (upd H3 d (.dK (hkv (.str (m3 c)) (.int ((if c = 40 then o + 1 else o : Nat) : Int)) (.int ((p : Int) + 1)) rv))) d = some (.dK (hkv (.str (m3 c)) (.int ((if c = 40 then o + 1 else o : Nat) : Int)) (.int ((p : Int) + 1)) rv)) := upd_same
  generalize upd H3 d (.dK (hkv (.str (m3 c)) (.int ((if c = 40 then o + 1 else o : Nat) : Int)) (.int ((p : Int) + 1)) rv)) = H4 at b4 D4
  generalize eoo : (if c = 40 then o + 1 else o : Nat) = oo at hb D4
  have neq : ∀ {x : Nat}, c ≠ x → [c] ≠ [x] := fun n q => n (List.cons.inj q).1
  -- a string
  refine ⟨fun σ' H' => σ' = [some (.ref d), some (.str (S [c]))] ∧ But d H H' ∧ H' d = some (.dK (hkv (.str (m4 c)) (.int (oo : Int)) (.int ((p : Int) + 1)) rv)), ?_, ?_⟩
  · refine ⟨_, rfl, rfl, _, rfl, ?_⟩
    by_cases h : c = 34
    · subst h
      rw [str_eq]
      exact iteT ⟨_, rfl, d, _, rfl, hp_mode D4 _, rfl, But.trans b4 But.put, upd_same⟩
    · rw [str_ne (neq h)]
      exact iteF ⟨rfl, b4, by unfold m4; rw [if_neg h]; exact D4⟩
  rintro σ' H5 ⟨rfl, b5, D5⟩
  -- yes, no
  refine ⟨fun σ' H' => σ' = [some (.ref d), some (.str (S [c]))] ∧ But d H H' ∧ H' d = some (.dK (hkv (.str (m5 c)) (.int (oo : Int)) (.int ((p : Int) + 1)) (r5 c rv))), ?_, ?_⟩
  · refine ⟨_, rfl, (by show 2 ≤ sizeLine; decide), fun t2 ht2 => ?_⟩
    have s6 := same_new ht2 (.tup [.str (S [121]), .str (S [110])])
    have T6 : (upd H5 t2 (.tup [.str (S [121]), .str (S [110])])) t2 = some (.tup [.str (S [121]), .str (S [110])]) := upd_same
    have D6 := s6 _ _ D5
    generalize upd H5 t2 (.tup [.str (S [121]), .str (S [110])]) = H6 at s6 T6 D6
    refine ⟨t2, _, rfl, .inr (SqT.of T6), rfl, rfl, _, rfl, ?_⟩
    have ein : (if false = true then !inV (V.str (S [c])) [.str (S [121]), .str (S [110])] else inV (V.str (S [c])) [.str (S [121]), .str (S [110])]) = decide (c = 121 ∨ c = 110) := by
      rw [if_neg (by decide)]
      have e : inV (V.str (S [c])) [.str (S [121]), .str (S [110])] = true ↔ (c = 121 ∨ c = 110) := by
        show (((S [121]) == (S [c])) || ((S [110] == S [c]) || false)) = true ↔ _
        rw [Bool.or_false, Bool.or_eq_true, beq_iff_eq, beq_iff_eq, S_inj, S_inj]
        constructor
        · rintro (z | z)
          · exact .inl (List.cons.inj z).1.symm
          · exact .inr (List.cons.inj z).1.symm
        · rintro (z | z)
          · exact .inl (by rw [z])
          · exact .inr (by rw [z])
      by_cases h : c = 121 ∨ c = 110
      · rw [e.mpr h, decide_eq_true h]
      · rw [Bool.eq_false_iff.mpr (fun z => h (e.mp z)), decide_eq_false h]
    rw [ein]
    have b6 : But d H H6 := But.trans b5 (But.of_same s6)
    refine ite2 (fun h => ?_) (fun h => ?_)
    · have h := of_decide_eq_true h
      intro d7 hd7
      refine ⟨upd_same, kv2, rfl, (by show 2 ≤ 15; decide), ?_⟩
      rw [merge2, upd_upd]
      have s7 := same_new hd7 (.dK kv2)
      have D7 : (upd H6 d7 (.dK kv2)) d7 = some (.dK kv2) := upd_same
      have D7' := s7 _ _ D6
      generalize upd H6 d7 (.dK kv2) = H7 at s7 D7 D7'
      have hv : valV kv2 (Sum.inr (S [c])) = some (r5 c rv) := by
        unfold kv2 r5
        rcases h with rfl | rfl
        · rw [valV_pos rfl, if_pos rfl, ees]
        · rw [valV_neg (key_ne (by decide)), valV_pos rfl, if_neg (by decide), if_pos rfl, eo']
      refine ⟨_, rfl, d7, _, rfl, by rw [← hv]; exact DGet.k D7 (k := Sum.inr (S [c])), (by show 2 ≤ sizeLine; decide), fun t8 ht8 => ?_⟩
      have s8 := same_new ht8 (.tup [.str "word", r5 c rv])
      have T8 : (upd H7 t8 (.tup [.str "word", r5 c rv])) t8 = some (.tup [.str "word", r5 c rv]) := upd_same
      have D8 := s8 _ _ D7'
      generalize upd H7 t8 (.tup [.str "word", r5 c rv]) = H8 at s8 T8 D8
      refine ⟨t8, _, rfl, SqT.of T8, rfl, _, _, rfl, _, rfl, d, _, rfl, hp_mode D8 _, _, _, rfl, _, rfl, d, _, rfl, hp_rest upd_same _, rfl, rfl, ?_, ?_⟩
      · exact But.trans b6 (But.trans (But.of_same (s7.trans s8)) (But.trans But.put But.put))
      · rw [upd_same]
        unfold m5
        rw [if_pos h]
    · have h : ¬ (c = 121 ∨ c = 110) := of_decide_eq_false (Bool.eq_false_iff.mpr h)
      refine ⟨rfl, b6, ?_⟩
      unfold m5 r5
      rw [if_neg h, if_neg (fun z => h (.inl z)), if_neg (fun z => h (.inr z))]
      exact D6
  rintro σ' H6 ⟨rfl, b6, D6⟩
  -- digits
  refine ⟨fun σ' H' => σ' = [some (.ref d), some (.str (S [c]))] ∧ But d H H' ∧ H' d = some (.dK (hkv (.str (m6 c)) (.int (oo : Int)) (.int ((p : Int) + 1)) (r6 c rv))), ?_, ?_⟩
  · refine ⟨_, rfl, c, _, rfl, rfl, _, rfl, ?_⟩
    rw [in19]
    refine ite2 (fun h => ?_) (fun h => ?_)
    · have h := of_decide_eq_true h
      refine ⟨(by show 2 ≤ sizeLine; decide), fun t8 ht8 => ?_⟩
      have s8 := same_new ht8 (.tup [.str "digits", .int 99])
      have T8 : (upd H6 t8 (.tup [.str "digits", .int 99])) t8 = some (.tup [.str "digits", .int 99]) := upd_same
      have D8 := s8 _ _ D6
      generalize upd H6 t8 (.tup [.str "digits", .int 99]) = H8 at s8 T8 D8
      refine ⟨t8, _, rfl, SqT.of T8, rfl, _, _, rfl, _, rfl, d, _, rfl, hp_mode D8 _, _, _, rfl, _, rfl, d, _, rfl, hp_rest upd_same _, rfl, rfl, ?_, ?_⟩
      · exact But.trans b6 (But.trans (But.of_same s8) (But.trans But.put But.put))
      · rw [upd_same]
        unfold m6 r6
        rw [if_pos h, if_pos h]
    · have h : ¬ (49 ≤ c ∧ c ≤ 57) := of_decide_eq_false (Bool.eq_false_iff.mpr h)
      refine ⟨rfl, b6, ?_⟩
      unfold m6 r6
      rw [if_neg h, if_neg h]
      exact D6
  rintro σ' H7 ⟨rfl, b7, D7⟩
  refine ⟨_, rfl, c, _, rfl, rfl, ?_⟩
  rw [inbeg]
  have g := q H7 b7
  rw [hb] at g
  cases hm : begMd c with
  | none =>
    rw [hm] at g
    exact g ⟨_, D7⟩
  | some md =>
    rw [hm] at g
    obtain ⟨h1, h2⟩ := beg_at (rv := rv) hm
    refine g ⟨r6 c rv, ?_, h2⟩
    rw [D7, h1]
    rfl
end
end TK
namespace TK
open PySem L2
/-! ### one sign more -/
def sgs : Str := " !\"#$&'()*+,-./0123456789:;<=>?@ABCDEFGHIJKLMNOPQRSTUVWXYZ[\\]^_`abcdefghijklmnopqrstuvwxyz{|}~"
theorem insg (c : Nat) : decide (c ∈ sgs.cps.toList) = plainC c := by
  have h1 : ∀ c < 127, decide (c ∈ sgs.cps.toList) = plainC c := by decide +kernel
  have h2 : ∀ x ∈ sgs.cps.toList, x < 127 := by decide +kernel
  by_cases h : c < 127
  · exact h1 c h
  · rw [decide_eq_false (fun z => h (h2 c z))]
    unfold plainC
    rw [decide_eq_false (show ¬ c ≤ 36 by omega), decide_eq_false (show ¬ c ≤ 126 by omega), Bool.and_false, Bool.and_false]; rfl
theorem eqb : Str.ofString "\"\\" = S [34, 92] := by decide +kernel
theorem e09 : Str.ofString "0123456789" = S [48, 49, 50, 51, 52, 53, 54, 55, 56, 57] := by decide +kernel
theorem inqb (c : Nat) : decide (c ∈ (S [34, 92]).cps.toList) = decide (c = 34 ∨ c = 92) := by
  apply decide_eq_decide.mpr
  show c ∈ [34, 92] ↔ _
  simp only [List.mem_cons, List.not_mem_nil, or_false]
theorem in09 (c : Nat) : decide (c ∈ (S [48, 49, 50, 51, 52, 53, 54, 55, 56, 57]).cps.toList) = decide (48 ≤ c ∧ c ≤ 57) := by
  apply decide_eq_decide.mpr
  show c ∈ [48, 49, 50, 51, 52, 53, 54, 55, 56, 57] ↔ _
  simp only [List.mem_cons, List.not_mem_nil, or_false]
  omega
theorem mne {a b : Str} (h : a ≠ b) : decide (V.str a = V.str b) = false := decide_eq_false fun e => h (V.str.inj e)
theorem meq {a : Str} : decide (V.str a = V.str a) = true := decide_eq_true rfl
theorem cut1 (x : Nat) (l : List Nat) : cutS (S (x :: l)) (some (1 : Int)) none = S l := by
  show S _ = S _
  rw [S_inj, S_len, show (1 : Int) = ((1 : Nat) : Int) from rfl, HT.sIx_nat]
  show (((x :: l).drop (min 1 (x :: l).length)).take ((x :: l).length - min 1 (x :: l).length)) = l
  rw [List.length_cons, Nat.min_eq_left (by omega)]
  show l.take (l.length + 1 - 1) = l
  rw [Nat.add_sub_cancel, List.take_length]
def spFit : Sp := fun vs H Q _ => ∃ (d : Addr) (c : Nat) (s : Sta), vs = [.ref d, .str (S [c])] ∧ At H d s ∧ Goes H d (stp s c) Q
section
variable {P : Program} {w : World} {K : PySem.W.Frag} {mg : Str → Option Value} {base : Heap} {ad : Nm → Addr} {dd : Nm → FuncData}
theorem scFit : FnScope ["_law_here", "_law_sign", "_law_mode", "_law_signs", "_law_is_next"] ["_law_here", "_law_sign"] (defScope sFit) := ⟨rfl, rfl, rfl, by decide +kernel, rfl, by decide +kernel, by decide +kernel⟩
theorem ok_fit (T : Txt K mg ad dd) : FnOk P w K mg base CX0 2 (ad .Fit) (dd .Fit) ["_law_here", "_law_sign"] spFit := by
  have GBeg := ok_beg (P := P) (w := w) (base := base) T
  have GBeh := ok_beh (P := P) (w := w) (base := base) T
  refine T.Fit.F.ok scFit (fun vs H Q E h => ?_) (fun cdv A outer s H vs Q E hr h => ?_)
  · obtain ⟨d, c, st, rfl, _⟩ := h
    rfl
  obtain ⟨d, c, ⟨md, o, p⟩, rfl, ⟨rv, hd, hrs⟩, q⟩ := h
  have hu := hu_of hr
  have hz : sizeLine = 16777216 := sizeLine_eq
  refine ⟨_, (pss_cons (ps_set (i := 2) scFit.nd rfl (Or.inl rfl) (pe_dget hu (pv 0) pe_str (fun _ _ => rfl)))
      (pss_cons (ps_if (PW.pt (pw_or (pt_cmpR op_eq (pv 2) pe_str (nomark _)) (pw_or1 (pt_cmpR op_eq (pv 2) pe_str (nomark _))))) (pss_cons (ps_if (PW.pt (pw_and (pt_cmpR op_eq (pv 2) pe_str (nomark _)) (pw_and1 (pt_cmpR op_notIn_sign (pv 1) pe_str (by with_unfolding_all rfl))))) (pss_one (ps_ret pe_bl)) pss_nil)
      (pss_cons (ps_dput hu (pv 0) pe_str pe_str rfl)
      (Evl.pss_cut (ps_if (PW.pt (pw_and (pt_cmpR op_eq (pv 2) pe_str (nomark _)) (pw_and1 (pt_cmpR op_in_sign (pv 1) pe_str (by with_unfolding_all rfl))))) (pss_one (ps_dput hu (pv 0) pe_str (pe_ifExp (pt_cmpR op_eq (pv 1) pe_str (nomark _)) pe_str pe_str) rfl)) pss_nil)
      (pss_cons (ps_set (i := 3) scFit.nd rfl (Or.inl rfl) pe_str)
      (pss_one (ps_ret (pe_cmpR op_in_sign (pv 1) (pv 3) (by with_unfolding_all rfl)))))))) pss_nil)
      (pss_cons (ps_if (pt_cmpR op_eq (pv 2) pe_str (nomark _)) (pss_cons (ps_asg (pe_tup (pa_cons (pe_cmpR op_eq (pv 1) (pe_ix ix_str (pe_dget hu (pv 0) pe_str (fun _ _ => rfl)) pe_int (fun _ _ => rfl)) (nomark _)) (pa_cons (pe_slice sl_str (pe_dget hu (pv 0) pe_str (fun _ _ => rfl)) (po_some pe_int) po_none) pa_nil))) (pg_tup rfl (pgs_cons (pg_name (i := 4) scFit.nd rfl (Or.inl rfl)) (pgs_cons (pg_sub (pv 0) pe_str (set_dict hu)) pgs_nil))))
      (pss_cons (ps_dput hu (pv 0) pe_str (pe_ifExp (pt_cmpR op_eq (pe_dget hu (pv 0) pe_str (fun _ _ => rfl)) pe_str (nomark _)) pe_str pe_str) rfl)
      (pss_one (ps_ret (pv 4))))) pss_nil)
      (pss_cons (ps_if (PW.pt (pw_or (pt_cmpR op_eq (pv 2) pe_str (nomark _)) (pw_or1 (PW.pt (pw_and (pt_cmpR op_eq (pv 2) pe_str (nomark _)) (pw_and1 (pt_cmpR op_ne (pv 1) pe_str (nomark _)))))))) (pss_one (ps_ret (pe_call GBeg (hr.mono (by first | decide | omega)) rfl T.Beg.m T.Beg.F.kp T.Beg.b .nil pass0 (pa_cons (pv 0) (pa_cons (pv 1) pa_nil))))) pss_nil)
      (pss_cons (ps_if (PW.pt (pw_and (pt_cmpR op_eq (pv 2) pe_str (nomark _)) (pw_and1 (pt_cmpR op_in_sign (pv 1) pe_str (by with_unfolding_all rfl))))) (pss_cons (ps_asg (pe_tup (pa_cons pe_str (pa_cons pe_int pa_nil))) (pg_tup rfl (pgs_cons (pg_sub (pv 0) pe_str (set_dict hu)) (pgs_cons (pg_sub (pv 0) pe_str (set_dict hu)) pgs_nil))))
      (pss_one (ps_ret pe_bl))) pss_nil)
      (pss_cons (ps_if (PW.pt (pw_and (pt_cmpR op_eq (pv 2) pe_str (nomark _)) (pw_and1 (pt_cmpR op_in_sign (pv 1) pe_str (by with_unfolding_all rfl))))) (pss_cons (ps_dput hu (pv 0) pe_str (pe_op op_sub (pe_dget hu (pv 0) pe_str (fun _ _ => rfl)) pe_int) rfl)
      (pss_one (ps_ret (pe_cmpR op_ge (pe_dget hu (pv 0) pe_str (fun _ _ => rfl)) pe_int (nomark _))))) pss_nil)
      (pss_one (ps_ret (pe_call GBeh (hr.mono (by first | decide | omega)) rfl T.Beh.m T.Beh.F.kp T.Beh.b .nil pass0 (pa_cons (pv 0) (pa_cons (pv 1) pa_nil))))))))))), ?_⟩
  rw [eqb, e41, e34, e19, e09]
  refine ⟨_, rfl, d, _, rfl, hg_mode hd, ?_⟩
  refine ⟨_, rfl, rfl, _, rfl, ?_⟩
  have neq : ∀ {x : Nat}, c ≠ x → [c] ≠ [x] := fun n q => n (List.cons.inj q).1
  cases md with
  | str =>
    rw [show mdN .str = ("string" : Str) from rfl, meq]
    refine iteT (iteT ?_)
    refine ⟨_, rfl, rfl, _, rfl, ?_⟩
    rw [mne (by decide +kernel)]
    refine iteF (iteF ⟨_, rfl, d, _, rfl, hp_mode hd _, ?_⟩)
    have D1 : (upd H d (.dK (hkv (.str "string") (.int (o : Int)) (.int (p : Int)) rv))) d = some (.dK (hkv (.str "string") (.int (o : Int)) (.int (p : Int)) rv)) := upd_same
    have b1 : But d H (upd H d (.dK (hkv (.str "string") (.int (o : Int)) (.int (p : Int)) rv))) := But.put
    generalize upd H d (.dK (hkv (.str "string") (.int (o : Int)) (.int (p : Int)) rv)) = H1 at b1 D1
    have es : stp ⟨.str, o, p⟩ c = if c = 34 then some ⟨.fin, o, p⟩ else if c = 92 then some ⟨.esc, o, p⟩ else if plainC c = true then some ⟨.str, o, p⟩ else none := rfl
    refine ⟨fun σ' H' => ∃ md2, σ' = [some (.ref d), some (.str (S [c])), some (.str "string"), none, none] ∧ But d H H' ∧ H' d = some (.dK (hkv (.str (mdN md2)) (.int (o : Int)) (.int (p : Int)) rv)) ∧ rsOk md2 rv ∧ stp ⟨.str, o, p⟩ c = if plainC c = true then some ⟨md2, o, p⟩ else none, ?_, ?_⟩
    · refine ⟨_, rfl, rfl, _, rfl, ?_⟩
      rw [meq]
      refine iteT ⟨_, rfl, c, _, rfl, rfl, _, rfl, ?_⟩
      rw [inqb]
      refine ite2 (fun h => ?_) (fun h => ?_)
      · have h := of_decide_eq_true h
        have pl : plainC c = true := by rcases h with rfl | rfl <;> rfl
        refine ⟨_, rfl, rfl, _, rfl, ?_⟩
        by_cases h34 : c = 34
        · subst h34
          rw [str_eq]
          exact iteT ⟨_, rfl, d, _, rfl, hp_mode D1 _, .fin, rfl, But.trans b1 But.put, upd_same, True.intro, rfl⟩
        · have h92 : c = 92 := h.resolve_left h34
          subst h92
          rw [str_ne (by decide)]
          exact iteF ⟨_, rfl, d, _, rfl, hp_mode D1 _, .esc, rfl, But.trans b1 But.put, upd_same, True.intro, rfl⟩
      · have h : ¬ (c = 34 ∨ c = 92) := of_decide_eq_false (Bool.eq_false_iff.mpr h)
        exact ⟨.str, rfl, b1, D1, True.intro, by rw [es, if_neg (fun z => h (.inl z)), if_neg (fun z => h (.inr z))]⟩
    · rintro σ' H2 ⟨md2, rfl, b2, D2, r2, e2⟩
      refine ⟨_, rfl, _, rfl, c, _, rfl, rfl, ?_⟩
      show Q (.bl (decide (c ∈ sgs.cps.toList))) _
      rw [insg]
      have g := q H2 b2
      rw [e2] at g
      cases pc : plainC c with
      | true =>
        rw [pc, if_pos rfl] at g
        exact g ⟨rv, D2, r2⟩
      | false =>
        rw [pc, if_neg (by decide)] at g
        exact g ⟨_, D2⟩
  | esc =>
    rw [show mdN .esc = ("escape" : Str) from rfl, mne (by decide +kernel)]
    refine iteF ⟨_, rfl, rfl, _, rfl, ?_⟩
    rw [meq]
    refine iteT ⟨_, rfl, rfl, _, rfl, ?_⟩
    rw [meq]
    refine iteT ⟨_, rfl, c, _, rfl, rfl, _, rfl, ?_⟩
    rw [inqb]
    have es : stp ⟨.esc, o, p⟩ c = if c = 34 ∨ c = 92 then some ⟨.str, o, p⟩ else none := rfl
    by_cases h : c = 34 ∨ c = 92
    · rw [decide_eq_true h]
      rw [es, if_pos h] at q
      refine iteF ⟨_, rfl, d, _, rfl, hp_mode hd _, ?_⟩
      have D1 : (upd H d (.dK (hkv (.str "string") (.int (o : Int)) (.int (p : Int)) rv))) d = some (.dK (hkv (.str "string") (.int (o : Int)) (.int (p : Int)) rv)) := upd_same
      have b1 : But d H (upd H d (.dK (hkv (.str "string") (.int (o : Int)) (.int (p : Int)) rv))) := But.put
      generalize upd H d (.dK (hkv (.str "string") (.int (o : Int)) (.int (p : Int)) rv)) = H1 at b1 D1
      refine ⟨fun σ' H' => σ' = [some (.ref d), some (.str (S [c])), some (.str "escape"), none, none] ∧ H' = H1, ?_, ?_⟩
      · refine ⟨_, rfl, rfl, _, rfl, ?_⟩
        rw [mne (by decide +kernel)]
        exact iteF (iteF ⟨rfl, rfl⟩)
      · rintro σ' H2 ⟨rfl, rfl⟩
        refine ⟨_, rfl, _, rfl, c, _, rfl, rfl, ?_⟩
        show Q (.bl (decide (c ∈ sgs.cps.toList))) _
        rw [insg, show plainC c = true by rcases h with rfl | rfl <;> rfl]
        exact q H2 b1 ⟨rv, D1, True.intro⟩
    · rw [decide_eq_false h]
      rw [es, if_neg h] at q
      exact iteT (q H (But.refl _ _) ⟨_, hd⟩)
  | word l =>
    obtain ⟨rfl, hl5, hl0⟩ := hrs
    rw [show mdN (.word l) = ("word" : Str) from rfl, mne (by decide +kernel)]
    refine iteF ⟨_, rfl, rfl, _, rfl, ?_⟩
    rw [mne (by decide +kernel)]
    refine iteF ⟨_, rfl, rfl, _, rfl, ?_⟩
    rw [meq]
    obtain ⟨x, l, rfl⟩ : ∃ x l', l = x :: l' := by
      cases l with
      | nil => exact absurd rfl hl0
      | cons x l => exact ⟨x, l, rfl⟩
    have hl5' : l.length + 1 ≤ 5 := hl5
    replace hd : H d = some (.dK (hkv (.str "word") (.int (o : Int)) (.int (p : Int)) (.str (S (x :: l))))) := hd
    refine iteT ⟨_, rfl, _, rfl, d, _, rfl, hg_rest hd, _, _, x, rfl, rfl, by rw [S_len, List.length_cons]; omega, at_ofN (j := 0) rfl rfl, rfl, ?_⟩
    refine ⟨_, rfl, d, _, rfl, hg_rest hd, _, rfl, S (x :: l), rfl, by rw [S_len, List.length_cons]; omega, ?_⟩
    rw [cut1]
    refine ⟨(by show 2 ≤ sizeLine; decide), fun t ht => ?_⟩
    have ev : decide (V.str (S [c]) = V.str ⟨#[x]⟩) = decide (c = x) := by
      show decide (V.str (S [c]) = V.str (S [x])) = _
      by_cases h : c = x
      · rw [h, str_eq, decide_eq_true rfl]
      · rw [str_ne (by intro q; exact h (List.cons.inj q).1), decide_eq_false h]
    rw [ev]
    have s1 := same_new ht (.tup [.bl (decide (c = x)), .str (S l)])
    have T1 : (upd H t (.tup [.bl (decide (c = x)), .str (S l)])) t = some (.tup [.bl (decide (c = x)), .str (S l)]) := upd_same
    have hd1 := s1 _ _ hd
    generalize upd H t (.tup [.bl (decide (c = x)), .str (S l)]) = H1 at s1 T1 hd1
    refine ⟨t, _, rfl, SqT.of T1, rfl, _, _, rfl, _, _, rfl, _, rfl, d, _, rfl, hp_rest hd1 _, rfl, ?_⟩
    have D2 : (upd H1 d (.dK (hkv (.str "word") (.int (o : Int)) (.int (p : Int)) (.str (S l))))) d = some (.dK (hkv (.str "word") (.int (o : Int)) (.int (p : Int)) (.str (S l)))) := upd_same
    have b2 : But d H (upd H1 d (.dK (hkv (.str "word") (.int (o : Int)) (.int (p : Int)) (.str (S l))))) := But.trans (But.of_same s1) But.put
    generalize upd H1 d (.dK (hkv (.str "word") (.int (o : Int)) (.int (p : Int)) (.str (S l)))) = H2 at b2 D2
    have es : stp ⟨.word (x :: l), o, p⟩ c = if c = x then some ⟨if l = [] then .fin else .word l, o, p⟩ else none := rfl
    rw [es] at q
    have last : ∀ (md2 : Md), (md2 = if l = [] then Md.fin else .word l) → Q (.bl (decide (c = x))) (upd H2 d (.dK (hkv (.str (mdN md2)) (.int (o : Int)) (.int (p : Int)) (.str (S l))))) := fun md2 em => by
      have g := q _ (But.trans b2 (But.put (o := .dK (hkv (.str (mdN md2)) (.int (o : Int)) (.int (p : Int)) (.str (S l))))))
      by_cases h : c = x
      · rw [decide_eq_true h]
        rw [if_pos h] at g
        refine g ⟨.str (S l), by rw [upd_same, em], ?_⟩
        show rsOk (if l = [] then Md.fin else .word l) _
        by_cases e : l = []
        · rw [if_pos e]; exact True.intro
        · rw [if_neg e]; exact ⟨rfl, by omega, e⟩
      · rw [decide_eq_false h]
        rw [if_neg h] at g
        exact g ⟨_, upd_same⟩
    refine ⟨_, rfl, d, _, rfl, hg_rest D2, rfl, _, rfl, ?_⟩
    rw [e0]
    cases l with
    | nil =>
      rw [str_eq]
      exact iteT ⟨_, rfl, d, _, rfl, hp_mode D2 _, _, rfl, last .fin rfl⟩
    | cons y l =>
      rw [str_ne (by intro q; cases q)]
      exact iteF ⟨_, rfl, d, _, rfl, hp_mode D2 _, _, rfl, last (.word (y :: l)) rfl⟩
  | part =>
    rw [show mdN .part = ("part" : Str) from rfl, mne (by decide +kernel)]
    refine iteF ⟨_, rfl, rfl, _, rfl, ?_⟩
    rw [mne (by decide +kernel)]
    refine iteF ⟨_, rfl, rfl, _, rfl, ?_⟩
    rw [mne (by decide +kernel)]
    refine iteF ⟨_, rfl, rfl, _, rfl, ?_⟩
    rw [meq]
    exact iteT (iteT ⟨_, rfl, _, rfl, d, c, o, p, _, rv, rfl, hd, q⟩)
  | first =>
    rw [show mdN .first = ("first" : Str) from rfl, mne (by decide +kernel)]
    refine iteF ⟨_, rfl, rfl, _, rfl, ?_⟩
    rw [mne (by decide +kernel)]
    refine iteF ⟨_, rfl, rfl, _, rfl, ?_⟩
    rw [mne (by decide +kernel)]
    refine iteF ⟨_, rfl, rfl, _, rfl, ?_⟩
    rw [mne (by decide +kernel)]
    refine iteF ⟨_, rfl, rfl, _, rfl, ?_⟩
    rw [meq]
    refine iteT ⟨_, rfl, rfl, _, rfl, ?_⟩
    have es : stp ⟨.first, o, p⟩ c = if c = 41 then beh o p c else beg o p c := rfl
    rw [es] at q
    by_cases h : c = 41
    · rw [if_pos h] at q
      rw [show decide (V.str (S [c]) = V.str (S [41])) = true by rw [h, str_eq]]
      refine iteF ⟨_, rfl, rfl, _, rfl, ?_⟩
      rw [mne (by decide +kernel)]
      refine iteF (iteF ⟨_, rfl, rfl, _, rfl, ?_⟩)
      rw [mne (by decide +kernel)]
      exact iteF (iteF ⟨_, rfl, _, rfl, d, c, o, p, _, rv, rfl, hd, q⟩)
    · rw [if_neg h] at q
      rw [str_ne (by intro q; exact h (List.cons.inj q).1)]
      exact iteT ⟨_, rfl, _, rfl, d, c, o, p, _, rv, rfl, hd, q⟩
  | minus =>
    rw [show mdN .minus = ("minus" : Str) from rfl, mne (by decide +kernel)]
    refine iteF ⟨_, rfl, rfl, _, rfl, ?_⟩
    rw [mne (by decide +kernel)]
    refine iteF ⟨_, rfl, rfl, _, rfl, ?_⟩
    rw [mne (by decide +kernel)]
    refine iteF ⟨_, rfl, rfl, _, rfl, ?_⟩
    rw [mne (by decide +kernel)]
    refine iteF ⟨_, rfl, rfl, _, rfl, ?_⟩
    rw [mne (by decide +kernel)]
    refine iteF (iteF ⟨_, rfl, rfl, _, rfl, ?_⟩)
    rw [meq]
    refine iteT ⟨_, rfl, c, _, rfl, rfl, _, rfl, ?_⟩
    rw [in19]
    have es : stp ⟨.minus, o, p⟩ c = if 49 ≤ c ∧ c ≤ 57 then some ⟨.digs 99, o, p⟩ else beh o p c := rfl
    rw [es] at q
    by_cases h : 49 ≤ c ∧ c ≤ 57
    · rw [decide_eq_true h]
      rw [if_pos h] at q
      refine iteT ⟨(by show 2 ≤ sizeLine; decide), fun t8 ht8 => ?_⟩
      have s8 := same_new ht8 (.tup [.str "digits", .int 99])
      have T8 : (upd H t8 (.tup [.str "digits", .int 99])) t8 = some (.tup [.str "digits", .int 99]) := upd_same
      have D8 := s8 _ _ hd
      generalize upd H t8 (.tup [.str "digits", .int 99]) = H8 at s8 T8 D8
      refine ⟨t8, _, rfl, SqT.of T8, rfl, _, _, rfl, _, rfl, d, _, rfl, hp_mode D8 _, _, _, rfl, _, rfl, d, _, rfl, hp_rest upd_same _, rfl, ?_⟩
      exact q _ (But.trans (But.of_same s8) (But.trans But.put But.put)) ⟨.int 99, upd_same, rfl⟩
    · rw [decide_eq_false h]
      rw [if_neg h] at q
      refine iteF ⟨_, rfl, rfl, _, rfl, ?_⟩
      rw [mne (by decide +kernel)]
      exact iteF (iteF ⟨_, rfl, _, rfl, d, c, o, p, _, rv, rfl, hd, q⟩)
  | digs r =>
    have hrv : rv = .int (r : Int) := hrs
    subst hrv
    rw [show mdN (.digs r) = ("digits" : Str) from rfl, mne (by decide +kernel)]
    refine iteF ⟨_, rfl, rfl, _, rfl, ?_⟩
    rw [mne (by decide +kernel)]
    refine iteF ⟨_, rfl, rfl, _, rfl, ?_⟩
    rw [mne (by decide +kernel)]
    refine iteF ⟨_, rfl, rfl, _, rfl, ?_⟩
    rw [mne (by decide +kernel)]
    refine iteF ⟨_, rfl, rfl, _, rfl, ?_⟩
    rw [mne (by decide +kernel)]
    refine iteF (iteF ⟨_, rfl, rfl, _, rfl, ?_⟩)
    rw [mne (by decide +kernel)]
    refine iteF (iteF ⟨_, rfl, rfl, _, rfl, ?_⟩)
    rw [meq]
    refine iteT ⟨_, rfl, c, _, rfl, rfl, _, rfl, ?_⟩
    rw [in09]
    have es : stp ⟨.digs r, o, p⟩ c = if 48 ≤ c ∧ c ≤ 57 then (if r = 0 then none else some ⟨.digs (r - 1), o, p⟩) else beh o p c := rfl
    rw [es] at q
    by_cases h : 48 ≤ c ∧ c ≤ 57
    · rw [decide_eq_true h]
      rw [if_pos h] at q
      refine iteT ⟨_, rfl, d, _, rfl, hg_rest hd, _, _, rfl, rfl, _, rfl, d, _, rfl, hp_rest hd _, ?_⟩
      refine ⟨_, rfl, d, _, rfl, hg_rest upd_same, _, _, rfl, rfl, ?_⟩
      show Q (.bl (decide ((r : Int) - 1 ≥ 0))) (upd H d (.dK (hkv (.str "digits") (.int (o : Int)) (.int (p : Int)) (.int ((r : Int) - 1)))))
      have g := q _ (But.put (o := .dK (hkv (.str "digits") (.int (o : Int)) (.int (p : Int)) (.int ((r : Int) - 1)))))
      by_cases h0 : r = 0
      · rw [if_pos h0] at g
        rw [decide_eq_false (by omega)]
        exact g ⟨_, upd_same⟩
      · rw [if_neg h0] at g
        rw [decide_eq_true (by omega)]
        exact g ⟨_, upd_same, by show V.int ((r : Int) - 1) = V.int ((r - 1 : Nat) : Int); rw [show ((r - 1 : Nat) : Int) = (r : Int) - 1 by omega]⟩
    · rw [decide_eq_false h]
      rw [if_neg h] at q
      exact iteF ⟨_, rfl, _, rfl, d, c, o, p, _, .int (r : Int), rfl, hd, q⟩
  | fin =>
    rw [show mdN .fin = ("end" : Str) from rfl, mne (by decide +kernel)]
    refine iteF ⟨_, rfl, rfl, _, rfl, ?_⟩
    rw [mne (by decide +kernel)]
    refine iteF ⟨_, rfl, rfl, _, rfl, ?_⟩
    rw [mne (by decide +kernel)]
    refine iteF ⟨_, rfl, rfl, _, rfl, ?_⟩
    rw [mne (by decide +kernel)]
    refine iteF ⟨_, rfl, rfl, _, rfl, ?_⟩
    rw [mne (by decide +kernel)]
    refine iteF (iteF ⟨_, rfl, rfl, _, rfl, ?_⟩)
    rw [mne (by decide +kernel)]
    refine iteF (iteF ⟨_, rfl, rfl, _, rfl, ?_⟩)
    rw [mne (by decide +kernel)]
    exact iteF (iteF ⟨_, rfl, _, rfl, d, c, o, p, _, rv, rfl, hd, q⟩)
end
end TK
namespace TK
open PySem L2
/-! ### what is due -/
theorem merge4 (m o p r : V) : mergeK [] (hkv m o p r) = hkv m o p r := by
  unfold mergeK hkv
  simp only [List.foldl_cons, List.foldl_nil, putK, List.any_nil, List.any_cons, List.nil_append, Bool.false_eq_true, if_false, Bool.or_false, decide_eq_true_eq, nmo, nmp, nmr, nop, nor', npr', List.cons_append, Bool.or_eq_true, or_self]
def vInt : Option Nat → Int
  | none => -1
  | some j => j
def spWrA : Sp := fun vs H Q _ => ∃ z : List Nat, vs = [.str (S z)] ∧ z.length ≤ 16000000 ∧ ∀ H' : Hp, Same H H' → Q (.int (vInt (verd ⟨.part, 0, 0⟩ z))) H'
theorem but_same {d : Addr} {H H' H0 : Hp} (s : Same H0 H) (h : H0 d = none) (b : But d H H') : Same H0 H' := fun a o e => b a o (ne_of_none e h) (s _ _ e)
theorem fineMode : ∀ md : Md, inV (.str (mdN md)) [.str "end", .str "minus", .str "digits"] = fineMd md
  | .part => show inV (.str "part") [.str "end", .str "minus", .str "digits"] = false by decide +kernel
  | .first => show inV (.str "first") [.str "end", .str "minus", .str "digits"] = false by decide +kernel
  | .minus => show inV (.str "minus") [.str "end", .str "minus", .str "digits"] = true by decide +kernel
  | .fin => show inV (.str "end") [.str "end", .str "minus", .str "digits"] = true by decide +kernel
  | .str => show inV (.str "string") [.str "end", .str "minus", .str "digits"] = false by decide +kernel
  | .esc => show inV (.str "escape") [.str "end", .str "minus", .str "digits"] = false by decide +kernel
  | .word _ => show inV (.str "word") [.str "end", .str "minus", .str "digits"] = false by decide +kernel
  | .digs _ => show inV (.str "digits") [.str "end", .str "minus", .str "digits"] = true by decide +kernel
theorem fine_eq (s : Sta) : fine s = (decide (s.op = 0) && fineMd s.md) := by
  unfold fine fineMd
  cases s.md <;> rfl
section
variable {P : Program} {w : World} {K : PySem.W.Frag} {mg : Str → Option Value} {base : Heap} {ad : Nm → Addr} {dd : Nm → FuncData}
theorem scWrA : FnScope ["_law_text", "_law_here", "_law_at"] ["_law_text"] (defScope sWrA) := ⟨rfl, rfl, rfl, by decide +kernel, rfl, by decide +kernel, by decide +kernel⟩
theorem ok_wra (T : Txt K mg ad dd) : FnOk P w K mg base CX0 3 (ad .WrA) (dd .WrA) ["_law_text"] spWrA := by
  have GFit := ok_fit (P := P) (w := w) (base := base) T
  refine T.WrA.F.ok scWrA (fun vs H Q E h => ?_) (fun cdv A outer s H vs Q E hr h => ?_)
  · obtain ⟨z, rfl, _⟩ := h
    rfl
  obtain ⟨z, rfl, zl, q⟩ := h
  have hu := hu_of hr
  have hzl : sizeLine = 16777216 := sizeLine_eq
  have zl' : (S z).length ≤ sizeLine := by rw [S_len]; omega
  refine ⟨_, (pss_cons (ps_set (i := 1) scWrA.nd rfl (Or.inl rfl) (pe_disp (pps_cons pe_str pe_str (pps_cons pe_str pe_int (pps_cons pe_str pe_int (pps_cons pe_str pe_str pps_nil)))) rfl rfl (by simp) (by decide)))
      (pss_cons (ps_for PassesOwn.never rfl (pi_range1 rfl T.n_range (pa_cons (pe_callB call_len (by rfl) T.n_len bt_len (pa_cons (pv 0) pa_nil)) pa_nil)) (pg_name (i := 2) scWrA.nd rfl (Or.inl rfl)) (pss_one (ps_if (pt_not (pt_val (pe_call GFit (hr.mono (by first | decide | omega)) rfl T.Fit.m T.Fit.F.kp T.Fit.b .nil pass0 (pa_cons (pv 1) (pa_cons (pe_ix ix_str (pv 0) (pv 2) (fun _ _ => rfl)) pa_nil))) (fun _ => rfl))) (pss_one (ps_ret (pv 2))) pss_nil)))
      (pss_one (ps_ret (pe_ifExp (PW.pt (pw_and (pt_cmpR op_eq (pe_dget hu (pv 1) pe_str (fun _ _ => rfl)) pe_int (nomark _)) (pw_and1 (pt_cmpR op_in_seq (pe_dget hu (pv 1) pe_str (fun _ _ => rfl)) (pe_tup (pa_cons pe_str (pa_cons pe_str (pa_cons pe_str pa_nil)))) (by with_unfolding_all rfl))))) (pe_un un_neg pe_int) (pe_callB call_len (by rfl) T.n_len bt_len (pa_cons (pv 0) pa_nil))))))), ?_⟩
  intro d hd
  refine ⟨upd_same, hkv (.str "part") (.int 0) (.int 0) (.str ""), rfl, (by show 4 ≤ 15; decide), ?_⟩
  rw [merge4, upd_upd]
  have s0 := same_new hd (.dK (hkv (.str "part") (.int 0) (.int 0) (.str "")))
  have A0 : At (upd H d (.dK (hkv (.str "part") (.int 0) (.int 0) (.str "")))) d ⟨.part, 0, 0⟩ := ⟨.str "", upd_same, True.intro⟩
  generalize upd H d (.dK (hkv (.str "part") (.int 0) (.int 0) (.str ""))) = H1 at s0 A0
  refine ⟨_, rfl, _, _, rfl, ⟨zl', rfl⟩, _, rfl, by rw [S_len]; omega, by rw [S_len]; omega, ?_⟩
  have D0 : Due z 0 ⟨.part, 0, 0⟩ z := by
    show verd ⟨.part, 0, 0⟩ z = (verd ⟨.part, 0, 0⟩ z).map (· + 0)
    cases verd ⟨.part, 0, 0⟩ z <;> rfl
  refine for_range (fun i σ H' => i ≤ z.length ∧ ∃ (st : Sta) (o : Option V), σ = [some (.str (S z)), some (.ref d), o] ∧ Same H H' ∧ At H' d st ∧ Due z i st (z.drop i)) ⟨Nat.zero_le _, _, none, rfl, s0, A0, D0⟩ ?_ ?_
  · rintro i σ H2 hi ⟨_, st, o, rfl, s2, A2, D2⟩
    have hi' : i < z.length := by
      have e : ((((S z).length : Nat) : Int)).toNat = z.length := by rw [S_len]; omega
      omega
    have hd2 : z.drop i = z[i] :: z.drop (i + 1) := List.drop_eq_getElem_cons hi'
    generalize z[i] = c at hd2
    have hc : (S z).cps.toList[i]? = some c := by
      show z[i]? = some c
      have := congrArg List.head? hd2
      rw [List.head?_drop] at this
      exact this
    refine ⟨_, rfl, _, rfl, _, rfl, S z, _, c, rfl, rfl, zl', at_ofN (j := i) (by omega) hc, d, c, st, rfl, A2, ?_⟩
    rw [hd2] at D2
    intro H3 b3
    have s3 := but_same s2 hd b3
    cases e : stp st c with
    | some s' => exact fun at' => ⟨_, rfl, iteF ⟨by omega, s', _, rfl, s3, at', D2.on e⟩⟩
    | none =>
      refine fun _ => ⟨_, rfl, iteT ⟨_, rfl, ?_⟩⟩
      have g := q H3 s3
      rw [D2.bad e] at g
      show Q (.int (0 + ((i : Nat) : Int))) H3
      rw [Int.zero_add]
      exact g
  · rintro σ H2 ⟨_, st, o, rfl, s2, ⟨rv, A2, r2⟩, D2⟩
    have en : ((((S z).length : Nat) : Int)).toNat = z.length := by rw [S_len]; omega
    rw [en, List.drop_length] at D2
    refine ⟨_, rfl, d, _, rfl, hg_open A2, rfl, _, rfl, ?_⟩
    have eo : decide (V.int (st.op : Int) = V.int 0) = decide (st.op = 0) := by
      by_cases h : st.op = 0
      · rw [h, decide_eq_true rfl]; rfl
      · rw [decide_eq_false h, decide_eq_false (fun z => h (by have := V.int.inj z; omega))]
    rw [eo]
    have last : ∀ b : Bool, fine st = b → ∀ H3 : Hp, Same H H3 → (if b = true then Q (.int (-1)) H3 else Q (.int ((S z).length : Nat)) H3) := fun b hb H3 s3 => by
      have g := q H3 s3
      cases b with
      | true =>
        rw [D2.good hb] at g
        exact iteT g
      | false =>
        rw [D2.short hb] at g
        refine iteF ?_
        rw [S_len]
        exact g
    cases h0 : decide (st.op = 0) with
    | false =>
      have l := last false (by rw [fine_eq, h0]; rfl) H2 s2
      exact iteF (iteF ⟨_, rfl, _, _, rfl, ⟨zl', rfl⟩, l⟩)
    | true =>
      refine iteT ⟨_, rfl, d, _, rfl, hg_mode A2, (by show 3 ≤ sizeLine; decide), fun t ht => ?_⟩
      have s5 := same_new ht (.tup [.str "end", .str "minus", .str "digits"])
      have T5 : (upd H2 t (.tup [.str "end", .str "minus", .str "digits"])) t = some (.tup [.str "end", .str "minus", .str "digits"]) := upd_same
      generalize upd H2 t (.tup [.str "end", .str "minus", .str "digits"]) = H5 at s5 T5
      refine ⟨t, _, rfl, .inr (SqT.of T5), rfl, rfl, _, rfl, ?_⟩
      have ef : (if false = true then !inV (.str (mdN st.md)) [.str "end", .str "minus", .str "digits"] else inV (.str (mdN st.md)) [.str "end", .str "minus", .str "digits"]) = fine st := by
        rw [if_neg (by decide), fineMode, fine_eq, h0, Bool.true_and]
      rw [ef]
      have l := last (fine st) rfl H5 (s2.trans s5)
      cases hf : fine st with
      | true =>
        rw [hf] at l
        exact iteT ⟨_, rfl, l⟩
      | false =>
        rw [hf] at l
        exact iteF ⟨_, rfl, _, _, rfl, ⟨zl', rfl⟩, l⟩
end
end TK
namespace TK
open PySem L2
/-! ### isinstance of the exception that is handled -/
section
open PySem.W PyProof.Rows
variable {prog : Program} {w : World} {A : Around} {E : Value → Shared → Prop} {s : Shared} {K : Frag}
theorem isi_yes {y c t : Value} {Q : Value → Shared → Prop} (lt : Looks (model prog w) s.heap (typeOf y) t) (kin : K.In s.heap) (ne : (t == c) = false) (yes : kitCls K t c = some true) (hy : y ≠ .builtin "__main__.__loader__#opaque") (q : Q (.bool true) s) :
    wpAny (model prog w) A (call (.builtin "isinstance") [y, c]) Q E s := by
  refine call_isinstance_of ?_ hy
  obtain ⟨a1, a2, a3⟩ := kit_cls (M := model prog w) kin yes
  have both : Looks (model prog w) s.heap (isInstance y c) true := lt.andThen a3
  obtain ⟨hp, g, dr, tt, os⟩ := s
  unfold Builtin.«isinstance.nested»
  refine wpAny_bind (lt.at ?_)
  rw [if_neg (Bool.eq_false_iff.mp ne)]
  refine wpAny_bind (a1.at ?_)
  rw [if_pos (show ((Value.type "type") == Value.type "type") = true from by decide)]
  k_delta "plainIsInstance"
  refine wpAny_bind ?_
  refine wpAny_bind ?_
  refine a2.at ?_
  simp only [Bool.not_true, Bool.false_eq_true, if_false]
  refine wpAny_bind ?_
  refine both.at ?_
  first
    | exact wpAny_pure (wpAny_pure q)
    | (simp only [if_true]; first | exact wpAny_pure (wpAny_pure q) | exact wpAny_pure q | exact wpAny_bind (wpAny_pure (wpAny_pure q)))
end
end TK
namespace TK
open PySem L2
/-! ### the text of a tree that was read -/
theorem join_sum : ∀ ls : List (List Nat), (ls.map (·.length)).sum ≤ (TL.joinL [32] ls).length
  | [] => Nat.le_refl _
  | [p] => by
    show p.length + 0 ≤ p.length
    omega
  | p :: q :: r => by
    have ih := join_sum (q :: r)
    show p.length + ((q :: r).map (·.length)).sum ≤ (p ++ ([32] ++ TL.joinL [32] (q :: r))).length
    rw [List.length_append, List.length_append]
    omega
theorem ts_getx : ∀ {ts : List PyData} {i : Nat} {t : PyData}, gxs ts = true → ts[i]? = some t → gx t = true ∧ dp t ≤ dps ts ∧ (wr t).length ≤ ((wrs ts).map (·.length)).sum
  | [], i, t, _, h => by simp at h
  | u :: ts, 0, t, g, h => by
    have h' : u = t := by simpa using h
    subst h'
    have g' : (gx u && gxs ts) = true := g
    rw [Bool.and_eq_true] at g'
    refine ⟨g'.1, ?_, ?_⟩
    · show dp u ≤ max (dp u) (dps ts)
      omega
    · show (wr u).length ≤ (wr u).length + ((wrs ts).map (·.length)).sum
      omega
  | u :: ts, i + 1, t, g, h => by
    have g' : (gx u && gxs ts) = true := g
    rw [Bool.and_eq_true] at g'
    obtain ⟨a, b, c⟩ := ts_getx g'.2 (show ts[i]? = some t by simpa using h)
    refine ⟨a, ?_, ?_⟩
    · show dp t ≤ max (dp u) (dps ts)
      omega
    · show (wr t).length ≤ (wr u).length + ((wrs ts).map (·.length)).sum
      omega
theorem dp_pos' : ∀ t : PyData, 1 ≤ dp t := dp_pos
/-- n calls are allowed -/
def spWrx (n : Nat) : Sp := fun vs H Q _ => ∃ (x : V) (t : PyData), vs = [x] ∧ Tr H x t ∧ gx t = true ∧ dp t ≤ n ∧ (wr t).length ≤ 100000 ∧ ∀ H' : Hp, Same H H' → Q (.str (S (wr t))) H'
section
variable {P : Program} {w : World} {K : PySem.W.Frag} {mg : Str → Option Value} {base : Heap} {ad : Nm → Addr} {dd : Nm → FuncData}
theorem wrx_step (T : Txt K mg ad dd) {N : Nat} (GWrit : FnOk P w K mg base CX0 N (ad .Writ) (dd .Writ) ["_law_tree"] (spWrx N)) : FnOk P w K mg base CX0 (N + 1) (ad .Writ) (dd .Writ) ["_law_tree"] (spWrx (N + 1)) := by
  refine T.Writ.F.ok scWrit (fun vs H Q E h => ?_) (fun cdv A outer s H vs Q E hr h => ?_)
  · obtain ⟨x, t, rfl, _⟩ := h
    rfl
  obtain ⟨x, t, rfl, tr, g, hd, hp, k⟩ := h
  have hz : sizeLine = 16777216 := sizeLine_eq
  refine ⟨_, (pss_cons (ps_if (pt_val (pe_callB call_isi (by rfl) T.n_isinstance bt_isinstance (pa_cons (pv 0) (pa_cons (pe_bltn (v := .ty "tuple") rfl T.n_tuple bt_tuple rfl) pa_nil))) (fun _ => rfl)) (pss_one (ps_ret (pe_op op_add_str (pe_op op_add_str pe_str (pe_join pe_str (pe_lc (own := [("_law_part", 1)]) (g := gName 1) (tt := tYes) rfl scWrit.nd (pi_tup (pv 0)) (blkOk_by (N := ["_law_tree", "_law_part"]) (sc := defScope sWrit) (by decide +kernel)) (fun _ _ _ _ _ => pg_name (i := 1) scWrit.nd rfl (Or.inl rfl)) (fun _ _ _ _ _ => pts_nil) (fun _ _ _ _ _ => (pe_call GWrit (hr.mono (by first | decide | omega)) rfl T.Writ.m T.Writ.F.kp T.Writ.b .nil pass0 (pa_cons (pv 1) pa_nil)))))) pe_str))) pss_nil)
      (pss_cons (ps_if (pt_val (pe_callB call_isi (by rfl) T.n_isinstance bt_isinstance (pa_cons (pv 0) (pa_cons (pe_bltn (v := .ty "str") rfl T.n_str bt_str rfl) pa_nil))) (fun _ => rfl)) (pss_one (ps_ret (pe_op op_add_str (pe_opC op_add_str (CwR.pet_replT (CwR.pet_replC (pv 0)))) pe_str))) pss_nil)
      (pss_cons (ps_if (PW.pt (pw_or (pt_val (pe_callB call_isi (by rfl) T.n_isinstance bt_isinstance (pa_cons (pv 0) (pa_cons (pe_bltn (v := .ty "bool") rfl T.n_bool bt_bool rfl) pa_nil))) (fun _ => rfl)) (pw_or1 (pt_cmpR op_isN (pv 0) pe_non (nomark _))))) (pss_one (ps_ret (pe_ifExp (pt_cmpR op_isN (pv 0) pe_non (nomark _)) pe_str (pe_ifExp (pt_truth (pv 0) (fun _ => rfl)) pe_str pe_str)))) pss_nil)
      (pss_one (ps_ret (pe_callTy call_str_int (by rfl) T.n_str bt_str (pa_cons (pv 0) pa_nil))))))), ?_⟩
  cases tr with
  | non =>
    refine ⟨_, rfl, _, _, _, _, false, rfl, .ty _, .base .non, k_nt, _, rfl, ?_⟩
    refine ⟨_, rfl, _, _, _, _, false, rfl, .ty _, .base .non, k_ns, _, rfl, ?_⟩
    refine ⟨_, rfl, _, _, _, _, false, rfl, .ty _, .base .non, k_nb, _, rfl, ?_⟩
    refine ⟨_, rfl, rfl, _, rfl, ?_⟩
    refine ⟨_, rfl, rfl, _, rfl, ?_⟩
    exact k H (Same.refl H)
  | bl b =>
    refine ⟨_, rfl, _, _, _, _, false, rfl, .ty _, .base (.bl b), k_bt, _, rfl, ?_⟩
    refine ⟨_, rfl, _, _, _, _, false, rfl, .ty _, .base (.bl b), k_bs, _, rfl, ?_⟩
    refine ⟨_, rfl, _, _, _, _, true, rfl, .ty _, .base (.bl b), k_bb, _, rfl, ?_⟩
    refine ⟨_, rfl, rfl, _, rfl, ?_⟩
    refine ⟨_, rfl, b, rfl, ?_⟩
    cases b with
    | true => exact k H (Same.refl H)
    | false => exact k H (Same.refl H)
  | int i =>
    refine ⟨_, rfl, _, _, _, _, false, rfl, .ty _, .base (.int i), k_it, _, rfl, ?_⟩
    refine ⟨_, rfl, _, _, _, _, false, rfl, .ty _, .base (.int i), k_is_, _, rfl, ?_⟩
    refine ⟨_, rfl, _, _, _, _, false, rfl, .ty _, .base (.int i), k_ib, _, rfl, ?_⟩
    refine ⟨_, rfl, rfl, _, rfl, ?_⟩
    exact ⟨_, rfl, i, rfl, bits_of (of_decide_eq_true g), k H (Same.refl H)⟩
  | str z =>
    refine ⟨_, rfl, _, _, _, _, false, rfl, .ty _, .base (.str z), k_st, _, rfl, ?_⟩
    refine ⟨_, rfl, _, _, _, _, true, rfl, .ty _, .base (.str z), k_ss, _, rfl, ?_⟩
    have hp2 : ([34] ++ esc z.cps.toList ++ [34]).length ≤ 100000 := hp
    rw [List.length_append, List.length_append] at hp2
    have zg := esc_ge z.cps.toList
    have zl : z.length ≤ 100000 := by
      have : z.length = z.cps.toList.length := Array.length_toList.symm
      omega
    have l1 := TK.replace_len z (Str.ofString "\\") (Str.ofString "\\\\")
    have c2 : (Str.ofString "\\\\").length = 2 := by decide +kernel
    have c3 : (Str.ofString "\\\"").length = 2 := by decide +kernel
    have c1 : (Str.ofString "\"").length = 1 := by decide +kernel
    have l2 := esc_len z.cps.toList
    have l3 : z.length = z.cps.toList.length := Array.length_toList.symm
    rw [c2] at l1
    refine ⟨_, rfl, z, rfl, by rw [c2]; omega, _, rfl, by rw [c3]; omega, _, _, rfl, rfl, by rw [esc_str, e34, S_len, S_len]; show 1 + _ ≤ _; omega, _, _, rfl, rfl, ?_, ?_⟩
    · rw [esc_str, e34, S_app, S_len, S_len, List.length_append]
      show 1 + _ + 1 ≤ _
      omega
    · rw [esc_str, e34, S_app, S_app]
      exact k H (Same.refl H)
  | @tup a xs ts h1 h2 =>
    refine ⟨_, rfl, _, _, _, _, true, rfl, .ty _, .base (.tup h1), k_tt, _, rfl, ?_⟩
    have hd' : dps ts + 1 ≤ N + 1 := hd
    have hp' : ([40] ++ TL.joinL [32] (wrs ts) ++ [41]).length ≤ 100000 := hp
    rw [List.length_append, List.length_append] at hp'
    have g : gxs ts = true := g
    have tg := join_ge ts g
    have wl := join_sum (wrs ts)
    have jl := join_len1 (wrs ts)
    have xl := h2.length
    have el := wrs_length ts
    refine ⟨⟨_, rfl⟩, _, rfl, a, rfl, ⟨xs, SqT.of h1⟩, fun D hD => lc_tup (xs := xs) (fun i H' => H' D = some (.lst ((wrs (ts.take i)).map fun l => .str (S l))) ∧ Same H H') ⟨upd_same, same_new hD _⟩ (fun i H' _ q => SqT.of (q.2 _ _ h1)) ?_ ?_⟩
    · rintro i x H' hx ⟨q1, q2⟩
      obtain ⟨t, ht, trx⟩ := TrAll.get h2 hx
      obtain ⟨m1, m2, m3⟩ := ts_getx g ht
      have il : i < ts.length := (List.getElem?_eq_some_iff.mp ht).1
      refine ⟨rfl, _, rfl, x, t, rfl, Tr.keep (Tups.of_same q2) _ _ trx, m1, by omega, by omega, fun H3 q3 => ⟨_, q3 _ _ q1, ?_, ?_, ?_⟩⟩
      · rw [List.length_map, wrs_length, List.length_take]
        omega
      · rw [upd_same, take_next ht, wrs_snoc, List.map_append]; rfl
      · intro b o e
        have nb : b ≠ D := ne_of_none e hD
        rw [upd_ne nb]
        exact q3 _ _ (q2 _ _ e)
    · rintro H' ⟨q1, q2⟩
      rw [List.take_of_length_le (by omega)] at q1
      have ej : PySem.Txt.join (Str.ofString " ") ((wrs ts).map S) = S (TL.joinL [32] (wrs ts)) := by rw [e32, SX.join_S]
      have cs : (Str.ofString " ").length = 1 := by decide +kernel
      refine ⟨_, D, (wrs ts).map S, rfl, rfl, .inl (SqL.of (by rw [List.map_map]; exact q1)), ?_, ?_⟩
      · rw [sum_S, List.length_map, cs]
        omega
      · refine ⟨_, _, rfl, rfl, ?_, _, _, rfl, rfl, ?_, ?_⟩
        · rw [ej, e40, S_len, S_len]
          show 1 + _ ≤ _
          omega
        · rw [ej, e40, e41, S_app, S_len, S_len, List.length_append]
          show 1 + _ + 1 ≤ _
          omega
        · rw [ej, e40, e41, S_app, S_app]
          exact k H' q2
theorem wrx_none : FnOk P w K mg base CX0 0 (ad .Writ) (dd .Writ) ["_law_tree"] (spWrx 0) := by
  have no : ∀ vs H Q E, ¬ spWrx 0 vs H Q E := fun vs H Q E h => by
    obtain ⟨x, t, _, _, _, h1, _⟩ := h
    have := dp_pos t
    omega
  exact ⟨fun vs H Q E h => absurd h (no vs H Q E), fun A outer s H args us vs Q E _ _ _ _ h => absurd h (no vs H Q E)⟩
theorem ok_wrx (T : Txt K mg ad dd) : ∀ N : Nat, FnOk P w K mg base CX0 N (ad .Writ) (dd .Writ) ["_law_tree"] (spWrx N)
  | 0 => wrx_none
  | N + 1 => wrx_step T (ok_wrx T N)
end
end TK
namespace TK
open PySem L2
/-! ### told and due -/
def dueL (v : V) : Option Nat → List V
  | none => [.str "text", v]
  | some j => [.str "index", .str (Str.ofString (toString (j : Int))), .bl true]
/-- the answers: a text, or what is none -/
def spTell (K : PySem.W.Frag) : Sp := fun vs H Q _ =>
  (∃ z : List Nat, vs = [.str (S z)] ∧ z.length ≤ 50000 ∧ ∀ (t : Addr) (H' : Hp), Same H H' → H' t = some (.tup (dueL (.str (S z)) (verd ⟨.part, 0, 0⟩ z))) → Q (.ref t) H') ∨
  (∃ (v : V) (n : String), vs = [v] ∧ TyX K H v (.type n) ∧ PySem.W.kitOne K (.type n) (.type "str") = some false ∧ ∀ (t : Addr) (H' : Hp), Same H H' → H' t = some (.tup (dueL v (some 0))) → Q (.ref t) H')
theorem small_bits {j : Nat} (h : j ≤ 50000) : ((j : Nat) : Int).natAbs.log2 < 1920 := bits_of (i := (j : Int)) (by
  have e : ((j : Nat) : Int).natAbs = j := rfl
  rw [e]
  exact Nat.lt_of_le_of_lt h (by decide))
theorem verd_le : ∀ (z : List Nat) (s : Sta) (j : Nat), verd s z = some j → j ≤ z.length
  | [], s, j, h => by
    have h' : (if fine s = true then none else some 0) = some j := h
    split at h'
    · cases h'
    · cases h'; exact Nat.le_refl _
  | c :: l, s, j, h => by
    have h' : (match stp s c with | none => some 0 | some s' => (verd s' l).map (· + 1)) = some j := h
    cases e : stp s c with
    | none => rw [e] at h'; cases h'; exact Nat.zero_le _
    | some s' =>
      rw [e] at h'
      cases e2 : verd s' l with
      | none =>
        have h2 : (verd s' l).map (· + 1) = some j := h'
        rw [e2] at h2; cases h2
      | some i =>
        have h2 : (verd s' l).map (· + 1) = some j := h'
        rw [e2] at h2; cases h2
        exact Nat.succ_le_succ (verd_le l s' i e2)
section
variable {P : Program} {w : World} {K : PySem.W.Frag} {mg : Str → Option Value} {base : Heap} {ad : Nm → Addr} {dd : Nm → FuncData}
theorem scDue : FnScope ["_law_value", "_law_at"] ["_law_value"] (defScope sDue) := ⟨rfl, rfl, rfl, by decide +kernel, rfl, by decide +kernel, by decide +kernel⟩
theorem scTold : FnScope ["_law_value", "e"] ["_law_value"] (defScope sTold) := ⟨rfl, rfl, rfl, by decide +kernel, rfl, by decide +kernel, by decide +kernel⟩
theorem ok_due (T : Txt K mg ad dd) : FnOk P w K mg base CX0 4 (ad .Due) (dd .Due) ["_law_value"] (spTell K) := by
  have GWrA := ok_wra (P := P) (w := w) (base := base) T
  refine T.Due.F.ok scDue (fun vs H Q E h => ?_) (fun cdv A outer s H vs Q E hr h => ?_)
  · rcases h with ⟨z, rfl, _⟩ | ⟨v, n, rfl, _⟩ <;> rfl
  have hu := hu_of hr
  refine ⟨_, (pss_cons (ps_set (i := 1) scDue.nd rfl (Or.inl rfl) (pe_ifExp (pt_val (pe_callB call_isi (by rfl) T.n_isinstance bt_isinstance (pa_cons (pv 0) (pa_cons (pe_bltn (v := .ty "str") rfl T.n_str bt_str rfl) pa_nil))) (fun _ => rfl)) (pe_call GWrA (hr.mono (by first | decide | omega)) rfl T.WrA.m T.WrA.F.kp T.WrA.b .nil pass0 (pa_cons (pv 0) pa_nil)) pe_int))
      (pss_one (ps_ret (pe_ifExp (pt_cmpR op_lt (pv 1) pe_int (nomark _)) (pe_tup (pa_cons pe_str (pa_cons (pv 0) pa_nil))) (pe_tup (pa_cons pe_str (pa_cons (pe_callB SkE.call_repr_int (by rfl) T.n_repr bt_repr (pa_cons (pv 1) pa_nil)) (pa_cons pe_bl pa_nil)))))))), ?_⟩
  have idx : ∀ (v : V) (j : Nat) (H1 : Hp), j ≤ 50000 → (∀ (t : Addr) (H' : Hp), Same H1 H' → H' t = some (.tup (dueL v (some j))) → Q (.ref t) H') →
      (tRet (tIf (tTest (tOp (rI0 fun i j => .bl (decide (i < j))) (tVar 1) (tC (.int 0)))) (tTup (tCons (tC (.str "text")) (tCons (tVar 0) tNil))) (tTup (tCons (tC (.str "index")) (tCons (tCB (fun xs H Q => ∃ i, xs = [.int i] ∧ i.natAbs.log2 < 1920 ∧ Q (.str (toString i)) H) (tCons (tVar 1) tNil)) (tCons (tC (.bl true)) tNil)))))
        { nx := fun _ H' => Q .non H', rt := Q } [some v, some (.int (j : Int))] H1) := fun v j H1 hj q => by
    refine ⟨_, rfl, _, _, rfl, rfl, _, rfl, ?_⟩
    rw [decide_eq_false (by omega)]
    refine iteF ⟨_, rfl, _, rfl, small_bits hj, (by show 3 ≤ sizeLine; decide), fun t ht => ?_⟩
    exact q t _ (same_new ht _) upd_same
  rcases h with ⟨z, rfl, zl, q⟩ | ⟨v, n, rfl, ty, kt, q⟩
  · refine ⟨_, rfl, _, _, _, _, true, rfl, .ty _, .base (.str _), k_ss, _, rfl, iteT ?_⟩
    refine ⟨_, rfl, z, rfl, by omega, fun H1 s1 => ?_⟩
    cases e : verd ⟨.part, 0, 0⟩ z with
    | none =>
      refine ⟨_, rfl, _, _, rfl, rfl, _, rfl, ?_⟩
      refine iteT ⟨_, rfl, (by show 2 ≤ sizeLine; decide), fun t ht => ?_⟩
      refine q t _ (s1.trans (same_new ht _)) ?_
      rw [e]
      exact upd_same
    | some j => exact idx (.str (S z)) j H1 (Nat.le_trans (verd_le z _ j e) zl) fun t H' s' h' => q t H' (s1.trans s') (by rw [e]; exact h')
  · refine ⟨_, rfl, _, _, _, _, false, rfl, .ty _, ty, kt, _, rfl, iteF ?_⟩
    exact idx v 0 H (by decide) q
end
end TK
namespace TK
open PySem L2
/-! ### what reading tells -/
theorem call_isN {X : Cx} {a C : Addr} {oe : Obj} {cls : Value} {d : Option Addr} {pn : List (Addr × Obj)} (sub : PySem.W.subIn X.K (.ref C) (.type "ValueError") = some true) (hz : Zc cls d oe) :
    CallR (X.suite a ((a, oe) :: pn)) (.builtin "isinstance") (fun xs H Q => xs = [.ref a, .ty "ValueError"] ∧ cls = .ref C ∧ Q (.bl true) H) := by
  intro pins s σ H xs us Q I r h
  obtain ⟨rfl, rfl, q⟩ := h
  obtain ⟨u1, u2, rfl, r1, r2⟩ := vals2 r
  obtain rfl : u1 = Value.ref a := r1
  obtain rfl : u2 = Value.type "ValueError" := r2
  obtain ⟨hget, _⟩ := I.pin (a, oe) (List.mem_append_left _ List.mem_cons_self)
  have lt : PySem.W.Looks (model X.prog X.w) s.heap (typeOf (.ref a)) (.ref C) := hz.1 ▸ (PySem.W.Looks.ld hget).andThen .now
  refine isi_yes lt I.kIn rfl ?_ (fun z => by cases z) ⟨.bl true, H, I, rfl, q⟩
  show (if PySem.W.kitMeta "ValueError" = true then PySem.W.subIn X.K (.ref C) (.type "ValueError") else none) = some true
  rw [if_pos (by decide +kernel), sub]
section
variable {P : Program} {w : World} {K : PySem.W.Frag} {mg : Str → Option Value} {base : Heap} {ad : Nm → Addr} {dd : Nm → FuncData}
theorem ok_told (T : Txt K mg ad dd) : FnOk P w K mg base CX0 31 (ad .Told) (dd .Told) ["_law_value"] (spTell K) := by
  have GRT := ok_rt (P := P) (w := w) (base := base) T
  have GWrit := ok_wrx (P := P) (w := w) (base := base) T 30
  refine T.Told.F.ok scTold (fun vs H Q E h => ?_) (fun cdv A outer s H vs Q E hr h => ?_)
  · rcases h with ⟨z, rfl, _⟩ | ⟨v, n, rfl, _⟩ <;> rfl
  have hzl : sizeLine = 16777216 := sizeLine_eq
  refine ⟨_, (pss_one (ps_try_as (i := 1) rfl rfl scTold.nd rfl rfl ⟨rfl, by decide, .inl T.mgNo⟩ takes0
    (fun W pn xe tk _ => pss_one (ps_ret (pe_tup (pa_cons pe_str (pa_cons (pe_call GWrit hr rfl T.Writ.m T.Writ.F.kp T.Writ.b .nil pass0 (pa_cons (pe_callS GRT (hr.mono (by decide)) rfl T.RT.m T.RT.F.kp T.RT.b (fun σ => passAt tk σ) (pa_cons (pv 0) pa_nil)) pa_nil)) pa_nil)))))
    (fun a oe cls d pn hz hf => pss_one (ps_ret (pe_tup (pa_cons pe_str (pa_cons (pe_callB SkE.call_repr_int (by rfl) T.n_repr bt_repr (pa_cons (pe_xf T.xf T.noIx hz hf (pv 1)) pa_nil)) (pa_cons (pe_callB (call_isN T.subVE hz) (by rfl) T.n_isinstance bt_isinstance (pa_cons (pv 1) (pa_cons (pe_bltn (v := .ty "ValueError") rfl T.n_ValueError bt_ValueError rfl) pa_nil))) pa_nil)))))))), ?_⟩
  have exc : ∀ (v : V) (j : Nat) (d : Addr) (H1 : Hp), j ≤ 50000 → NoAt H1 d (j : Int) → (∀ (t : Addr) (H' : Hp), Same H1 H' → H' t = some (.tup (dueL v (some j))) → Q (.ref t) H') → ∀ a : Addr,
      tTup (tCons (tC (.str "index")) (tCons (tCB (fun xs H Q => ∃ i, xs = [.int i] ∧ i.natAbs.log2 < 1920 ∧ Q (.str (toString i)) H) (tCons (tXf a (.ref (ad .NoText)) (some d) (ad .NoText) "index" (tVar 1)) tNil)) (tCons (tCB (fun xs H Q => xs = [.ref a, .ty "ValueError"] ∧ Value.ref (ad .NoText) = .ref (ad .NoText) ∧ Q (.bl true) H)
        (tCons (tVar 1) (tCons (tC (.ty "ValueError")) tNil))) tNil))) [some v, some (.ref a)] H1 Q := fun v j d H1 hj na q a => by
    refine ⟨_, rfl, rfl, rfl, d, _, .int (j : Int), rfl, na, lk_hit, _, rfl, small_bits hj, _, rfl, rfl, rfl, (by show 3 ≤ sizeLine; decide), fun t ht => ?_⟩
    exact q t _ (same_new ht _) upd_same
  rcases h with ⟨z, rfl, zl, q⟩ | ⟨v, n, rfl, ty, kt, q⟩
  · refine ⟨_, rfl, .inl ⟨z, rfl, by omega, fun j d H1 hv s1 na => ⟨true, T.exm, fun _ a ha => ?_, fun q => nomatch q⟩, fun x H1 s1 it hv => ?_⟩⟩
    · exact exc (.str (S z)) j d H1 (Nat.le_trans (verd_le z _ j hv) zl) na (fun t H' s' h' => q t H' (s1.trans s') (by rw [hv]; exact h')) a
    · obtain ⟨TT, tr, hg, hd, ez⟩ := it
      refine ⟨x, TT, rfl, tr, hg, hd, by rw [← ez]; omega, fun H2 s2 => ⟨(by show 2 ≤ sizeLine; decide), fun t ht => ?_⟩⟩
      refine q t _ (s1.trans (s2.trans (same_new ht _))) ?_
      rw [hv, ← ez]
      exact upd_same
  · refine ⟨_, rfl, .inr ⟨v, n, rfl, ty, kt, fun d H1 s1 na => ⟨true, T.exm, fun _ a ha => ?_, fun q => nomatch q⟩⟩⟩
    exact exc v 0 d H1 (by decide) na (fun t H' s' h' => q t H' (s1.trans s') h') a
end
end TK
namespace TK
open PySem L2 PyProof.Rows
/-! ### a sign many times, a tuple many times -/
theorem fold_sign (c : Nat) : ∀ (n : Nat) (acc : Array Nat), (List.replicate n #[c]).foldl (· ++ ·) acc = acc ++ (List.replicate n c).toArray
  | 0, acc => by simp
  | n + 1, acc => by
    rw [List.replicate_succ, List.foldl_cons, fold_sign c n, List.replicate_succ]
    apply Array.ext'
    simp
/-- one sign, n times -/
theorem op_signs {X : Cx} : OpR X (binaryOp .Mult) (fun x y H Q => ∃ (c n : Nat), x = .str (S [c]) ∧ y = .int (n : Int) ∧ 2 ≤ n ∧ n ≤ 20000 ∧ Q (.str (S (List.replicate n c))) H) := by
  intro pins s σ H x y v u Q I rx ry h
  obtain ⟨c, n, rfl, rfl, n2, nb, q⟩ := h
  obtain ⟨t1, rfl⟩ := rx
  obtain ⟨t2, rfl⟩ := ry
  have hz : sizeLine = 16777216 := sizeLine_eq
  have one : (S [c]).length = 1 := S_len [c]
  have big : ((n : Nat) : Int) < 2 ^ 63 := by omega
  have tn : ((n : Nat) : Int).toNat = n := Int.toNat_natCast n
  have len : (S (List.replicate n c)).length = n := by rw [S_len, List.length_replicate]
  refine PySem.P.mul_str ?_ ?_ ?_ ?_
  · rw [decide_eq_false (by omega), decide_eq_false (by omega)]; rfl
  · intro _ _
    rw [one]
    have : (1 : Int) ≤ (2 ^ 63 - 1) / (n : Int) := by
      rw [Int.le_ediv_iff_mul_le (by omega)]
      omega
    show ¬ (((1 : Nat) : Int) > (2 ^ 63 - 1) / (n : Int))
    omega
  · intro _ _
    rw [one, tn]
    unfold PySem.Builtin.Str.tooLong
    rw [hz]
    exact decide_eq_false (by omega)
  · rw [if_neg (by omega), one, if_neg (by
      rw [Bool.or_eq_true, beq_iff_eq, beq_iff_eq]
      omega), tn]
    have e : (⟨(List.replicate n (S [c]).cps).foldl (· ++ ·) #[]⟩ : Str) = S (List.replicate n c) := by
      show (⟨(List.replicate n #[c]).foldl (· ++ ·) #[]⟩ : Str) = ⟨(List.replicate n c).toArray⟩
      rw [fold_sign, Array.empty_append]
    rw [e]
    exact ⟨by rw [len]; omega, ⟨.str (S (List.replicate n c)), H, I.tok _, ⟨_, rfl⟩, q⟩⟩
/-- a tuple of one item, k times -/
theorem op_manyT {X : Cx} : OpR X (binaryOp .Mult) (fun x y H Q => ∃ (a : Addr) (k : Nat) (z : V), x = .ref a ∧ y = .int (k : Int) ∧ SqT X.K H a [z] ∧ 2 ≤ k ∧ k ≤ 2000 ∧ ∀ p, H p = none → Q (.ref p) (upd H p (.tup (List.replicate k z)))) := by
  intro pins s σ H x y v u Q I rx ry h
  obtain ⟨a, k, z, rfl, rfl, sq, k2, kb, q⟩ := h
  have lz : sizeLine = 16777216 := sizeLine_eq
  cases rx
  obtain ⟨tk, rfl⟩ := ry
  obtain ⟨one, rel, ⟨⟨oc, odd, oda, osl⟩, at_, cls_, n, dat⟩, _⟩ := I.tuple sq
  simp only at cls_ dat
  subst cls_ dat
  cases rel with
  | @cons _ zv _ r' rz rn =>
  cases rn
  have kn : ((k : Nat) : Int).toNat = k := Int.toNat_natCast k
  have flat : ∀ (α : Type) (b : α) (m : Nat), (List.replicate m [b]).flatten = List.replicate m b := fun α b m => by
    induction m with
    | zero => rfl
    | succ m ih => rw [List.replicate_succ, List.flatten_cons, ih, List.replicate_succ]; rfl
  have fold := L2.size_rep [zv] k
  rw [flat] at fold
  have w0 : (decide (((k : Nat) : Int) < -(2 ^ 63)) || decide (((k : Nat) : Int) ≥ 2 ^ 63)) = false := by rw [decide_eq_false (by omega), decide_eq_false (by omega)]; rfl
  have w1 : (([zv] : List Value).toArray.isEmpty || ((k : Nat) : Int) == 1) = false := by
    show (false || ((k : Nat) : Int) == 1) = false
    rw [Bool.false_or]
    exact beq_eq_false_iff_ne.mpr (by omega)
  have w2 : (decide (((k : Nat) : Int) ≤ 0) || ([zv] : List Value).toArray.isEmpty) = false := by
    show (decide (((k : Nat) : Int) ≤ 0) || false) = false
    rw [Bool.or_false]
    exact decide_eq_false (by omega)
  have w3 : ¬ ((([zv] : List Value).toArray.size : Nat) : Int) * ((k : Nat) : Int) > (2 ^ 63 - 1) / 8 := by
    show ¬ ((1 : Nat) : Int) * ((k : Nat) : Int) > (2 ^ 63 - 1) / 8
    omega
  have w4 : Builtin.Tuple.tupleTooMany (((([zv] : List Value).toArray.size : Nat) : Int) * ((k : Nat) : Int)) = false := by
    unfold Builtin.Tuple.tupleTooMany
    rw [lz]
    refine decide_eq_false ?_
    show ¬ ((1 : Nat) : Int) * ((k : Nat) : Int) > 16777216
    omega
  have w5 : (List.foldl (fun x1 x2 => x1 ++ x2) #[] (List.replicate ((k : Nat) : Int).toNat ([zv] : List Value).toArray)).size ≤ sizeLine := by
    rw [kn, fold, List.size_toArray, List.length_replicate]
    omega
  refine wpAny_binaryOp_repeat_ref (T := "tuple") (U := "int") (by decide) ⟨_, at_, rfl⟩ ?_ noFill_tuple_mul F.fills_int_mul
    F.slot_int_rmul repeat_tuple F.slot_int_index.lookup ?_
  · exact fun s' => typeIs_int s' _ tk
  refine call_meets F.slot_int_rmul (typeIs_int s _ tk) F.entry_int_rmul (F.args_int_rmul_2 _ _)
    (int_rmul_tuple _ tk a _ n odd osl) ⟨at_, rfl, ⟨_, at_, rfl⟩, ?_⟩
  refine call_meets F.slot_tuple_mul ⟨_, at_, rfl⟩ F.entry_tuple_mul
    (F.args_tuple_mul_2 _ _) (tuple_mulW a _ n odd osl _ tk w0 w1 w2 w3 w4 w5) ⟨at_, ?_⟩
  rw [kn, fold]
  have many : Paired RelV (List.replicate k z) (List.replicate k zv) := by
    clear q kb k2 w0 w1 w2 w3 w4 w5 fold kn
    induction k with
    | zero => exact .nil
    | succ k ih => exact .cons rz ih
  refine ⟨.ref s.heap.objs.size, _, I.laid (t' := s.toks) (o := .tup (List.replicate k z)) (fun b ob e => Heap.get?_push_of_some _ e) (Nat.le_refl _) ?_, rfl, ?_⟩
  · exact ⟨by rw [List.length_replicate]; omega, _, many, IsTup.new _ _⟩
  · exact q _ (I.hok.fresh (Nat.le_refl _))
end TK
namespace TK
open PySem L2
/-- signs below 128 -/
def Low (l : List Nat) : Prop := ∀ c ∈ l, c < 128
theorem Low.app {a b : List Nat} (h1 : Low a) (h2 : Low b) : Low (a ++ b) := fun c h => (List.mem_append.mp h).elim (h1 c) (h2 c)
theorem Low.take {a : List Nat} (h : Low a) (n : Nat) : Low (a.take n) := fun c m => h c (List.mem_of_mem_take m)
theorem Low.drop {a : List Nat} (h : Low a) (n : Nat) : Low (a.drop n) := fun c m => h c (List.mem_of_mem_drop m)
theorem Low.one {c : Nat} (h : c < 128) : Low [c] := fun x m => by
  have e : x = c := by simpa using m
  rw [e]; exact h
/-- a text that is not too long -/
def IsS (v : V) : Prop := ∃ z : Str, v = .str z ∧ z.length ≤ 50000 ∧ Low z.cps.toList
/-- what the law asks reading for -/
inductive Itm (H : Hp) : V → Prop where
  | str {z : Str} : z.length ≤ 50000 → Low z.cps.toList → Itm H (.str z)
  | non : Itm H .non
  | int (i : Int) : Itm H (.int i)
  | bl (b : Bool) : Itm H (.bl b)
  | tup {a : Addr} {xs : List V} : H a = some (.tup xs) → Itm H (.ref a)
  | lst {a : Addr} {xs : List V} : H a = some (.lst xs) → Itm H (.ref a)
  | dct {a : Addr} {kvs : List (Key × V)} : H a = some (.dK kvs) → Itm H (.ref a)
theorem Itm.same {H H' : Hp} {v : V} (s : Same H H') (h : Itm H v) : Itm H' v := by
  cases h with
  | str h h2 => exact .str h h2
  | non => exact .non
  | int i => exact .int i
  | bl b => exact .bl b
  | tup h => exact .tup (s _ _ h)
  | lst h => exact .lst (s _ _ h)
  | dct h => exact .dct (s _ _ h)
section
variable {K : PySem.W.Frag}
theorem k_ts : PySem.W.kitOne K (.type "tuple") (.type "str") = some false := kit_ty (by decide +kernel)
theorem k_ls : PySem.W.kitOne K (.type "list") (.type "str") = some false := kit_ty (by decide +kernel)
theorem k_ds : PySem.W.kitOne K (.type "dict") (.type "str") = some false := kit_ty (by decide +kernel)
/-- told and due of an item: the same -/
theorem tell_item {H : Hp} {v : V} {Q : VK} {E : XK} (h : Itm H v) (q : ∀ (t : Addr) (H' : Hp) (r : Option Nat) (z : Str), Same H H' → (v = .str z ∨ r = some 0) → (∀ z', v = .str z' → r = verd ⟨.part, 0, 0⟩ z'.cps.toList) → ((∀ z', v ≠ .str z') → r = some 0) → H' t = some (.tup (dueL v r)) → Q (.ref t) H') : spTell K [v] H Q E := by
  have odd : (∀ z', v ≠ .str z') → ∀ (t : Addr) (H' : Hp), Same H H' → H' t = some (.tup (dueL v (some 0))) → Q (.ref t) H' := fun n t H' s e => q t H' (some 0) "" s (.inr rfl) (fun z' e => absurd e (n z')) (fun _ => rfl) e
  cases h with
  | @str z h lw =>
    have ez : S z.cps.toList = z := by
      obtain ⟨⟨l⟩⟩ := z
      rfl
    refine .inl ⟨z.cps.toList, by rw [ez], by have : z.cps.toList.length = z.length := Array.length_toList; omega, fun t H' s e => q t H' _ z s (.inl rfl) (fun z' e => by cases e; rfl) (fun n => absurd rfl (n z)) (by rw [ez] at e; exact e)⟩
  | non => exact .inr ⟨_, _, rfl, .base .non, k_ns, odd fun z' e => by cases e⟩
  | int i => exact .inr ⟨_, _, rfl, .base (.int i), k_is_, odd fun z' e => by cases e⟩
  | bl b => exact .inr ⟨_, _, rfl, .base (.bl b), k_bs, odd fun z' e => by cases e⟩
  | tup h => exact .inr ⟨_, _, rfl, .base (.tup h), k_ts, odd fun z' e => by cases e⟩
  | lst h => exact .inr ⟨_, _, rfl, .base (.lst h), k_ls, odd fun z' e => by cases e⟩
  | dct h => exact .inr ⟨_, _, rfl, .base (.dK h), k_ds, odd fun z' e => by cases e⟩
end
/-- the answer as data -/
def dueD (v : V) : Option Nat → PyData
  | none => .tuple [.str "text", match v with | .str z => .str z | _ => .none]
  | some j => .tuple [.str "index", .str (Str.ofString (toString (j : Int))), .bool true]
theorem due_dp {K : PySem.W.Frag} {H : Hp} {v : V} {r : Option Nat} {t : Addr} (hv : (∃ z, v = .str z) ∨ r = some 0) (h : H t = some (.tup (dueL v r))) : Dp K H (.ref t) (dueD v r) := by
  cases r with
  | none =>
    rcases hv with ⟨z, rfl⟩ | hv
    · exact .tup (SqT.of h) (.cons (.str _) (.cons (.str z) .nil))
    · cases hv
  | some j => exact .tup (SqT.of h) (.cons (.str _) (.cons (.str _) (.cons (.bl true) .nil)))
theorem ok_low {z : Str} (h : Low z.cps.toList) : PyData.strOk z = true := by
  unfold PyData.strOk
  rw [← Array.all_toList]
  exact List.all_eq_true.mpr fun c m => decide_eq_true (Nat.lt_trans (h c m) (by decide))
theorem ok_num (j : Nat) : PyData.strOk (Str.ofString (toString (j : Int))) = true := by
  rw [SX.num_S j]
  refine ok_low fun c m => ?_
  have := TL.numL_digits j c m
  omega
theorem due_shaped {v : V} {r : Option Nat} (hv : (∃ z : Str, v = .str z ∧ Low z.cps.toList) ∨ r = some 0) : SeqAt.shaped (dueD v r) = true := by
  have t1 : PyData.strOk (Str.ofString "text") = true := by decide +kernel
  have t2 : PyData.strOk (Str.ofString "index") = true := by decide +kernel
  cases r with
  | none =>
    rcases hv with ⟨z, rfl, lw⟩ | hv
    · show (PyData.canLay0 (.tuple [.str "text", .str z]) && decide (PyData.depth (.tuple [.str "text", .str z]) ≤ 64)) = true
      simp only [PyData.canLay0, PyData.canLayAll0, PyData.depth, PyData.depthAll, t1, ok_low lw]
      rfl
    · cases hv
  | some j =>
    show (PyData.canLay0 (.tuple [.str "index", .str (Str.ofString (toString (j : Int))), .bool true]) && decide (PyData.depth (.tuple [.str "index", .str (Str.ofString (toString (j : Int))), .bool true]) ≤ 64)) = true
    simp only [PyData.canLay0, PyData.canLayAll0, PyData.depth, PyData.depthAll, t2, ok_num j]
    rfl
theorem due_eqv (v : V) (r : Option Nat) : PyData.eqv (dueD v r) (dueD v r) = true := by
  cases r with
  | none => cases v <;> simp [dueD, PyData.eqv, PyData.eqvAll]
  | some j => simp [dueD, PyData.eqv, PyData.eqvAll]
end TK
namespace TK
open PySem L2
/-! ### a text of many parts -/
def IsP (v : V) : Prop := ∃ z : List Nat, v = .str (S z) ∧ z.length ≤ 3 ∧ Low z
theorem Low.join {sep : List Nat} (hs : Low sep) : ∀ ls : List (List Nat), (∀ l ∈ ls, Low l) → Low (TL.joinL sep ls)
  | [], _ => fun c m => by cases m
  | [p], h => h p List.mem_cons_self
  | p :: q :: r, h => (h p List.mem_cons_self).app (hs.app (Low.join hs (q :: r) fun l m => h l (List.mem_cons_of_mem _ m)))
theorem flat_rep {α : Type} (b : α) : ∀ m : Nat, (List.replicate m [b]).flatten = List.replicate m b
  | 0 => rfl
  | m + 1 => by rw [List.replicate_succ, List.flatten_cons, flat_rep b m, List.replicate_succ]; rfl
theorem sum_rep (m b : Nat) : (List.replicate m b).sum = m * b := by simp
def spPrt : Sp := fun vs H Q _ => ∃ (d c : Addr) (n m : Nat), vs = [.ref d, .int (m : Int)] ∧ m ≤ 2002 ∧ 1 ≤ m ∧ PenAt H d c n ∧ n + 10 < 2 ^ 50 ∧ ∀ (l : List Nat) (H' : Hp), l.length ≤ 20000 → 1 ≤ l.length → Low l → But d H H' → PenAt H' d c (n + 2) → Q (.str (S l)) H'
section
variable {P : Program} {w : World} {K : PySem.W.Frag} {mg : Str → Option Value} {base : Heap} {ad : Nm → Addr} {dd : Nm → FuncData}
theorem scPrt : FnScope ["_law_pen_here", "_law_many", "_law_size", "_law_part", "_law_found", "_law_left", "_law_here"] ["_law_pen_here", "_law_many"] (defScope sPrt) := ⟨rfl, rfl, rfl, by decide +kernel, rfl, by decide +kernel, by decide +kernel⟩
theorem ok_prt (T : Txt K mg ad dd) : FnOk P w K mg base CX0 3 (ad .Prt) (dd .Prt) ["_law_pen_here", "_law_many"] spPrt := by
  have GPick := ok_pick (P := P) (w := w) (base := base) T
  refine T.Prt.F.ok scPrt (fun vs H Q E h => ?_) (fun cdv A outer s H vs Q E hr h => ?_)
  · obtain ⟨d, c, n, m, rfl, _⟩ := h
    rfl
  obtain ⟨d, c, n, m, rfl, hm, hm1, hp, hn, k⟩ := h
  have hz : sizeLine = 16777216 := sizeLine_eq
  refine ⟨_, (pss_cons (ps_par (i := 2) (j := 3) rfl scPrt.nd rfl rfl (by decide) rfl rfl (pa_cons (pe_call GPick (hr.mono (by first | decide | omega)) rfl T.Pick.m T.Pick.F.kp T.Pick.b .nil pass0 (pa_cons (pv 0) (pa_cons (pe_lst (pa_cons pe_int (pa_cons pe_int (pa_cons pe_int (pa_cons pe_int pa_nil))))) pa_nil))) (pa_cons (pe_call GPick (hr.mono (by first | decide | omega)) rfl T.Pick.m T.Pick.F.kp T.Pick.b .nil pass0 (pa_cons (pv 0) (pa_cons (pe_lst (pa_cons pe_str (pa_cons pe_str (pa_cons pe_str (pa_cons pe_str (pa_cons pe_str pa_nil)))))) pa_nil))) pa_nil)) rfl)
      (pss_cons (ps_par (i := 4) (j := 5) rfl scPrt.nd rfl rfl (by decide) rfl rfl (pa_cons (pe_lst pa_nil) (pa_cons (pe_op op_sub (pv 1) pe_int) pa_nil)) rfl)
      (pss_cons (ps_while PassesOwn.never (pt_cmpR op_gt (pv 5) pe_int (nomark _)) (pss_cons (ps_set (i := 6) scPrt.nd rfl (Or.inl rfl) (pe_callB (call_min2 rfl) (by rfl) T.n_min bt_min (pa_cons (pv 2) (pa_cons (pe_op op_sub (pv 5) pe_int) pa_nil))))
      (pss_cons (ps_expr (pe_bm PySem.F.plainAttrs_list PySem.F.slot_list_append PySem.F.type_list_append mt_append (pv 4) (pa_cons (pe_ifExp (pt_cmpR op_gt (pv 6) pe_int (nomark _)) (pe_op op_add_str (pe_op op_add_str pe_str (pe_join pe_str (pe_op op_rep (pe_lst (pa_cons (pv 3) pa_nil)) (pv 6)))) pe_str) (pv 3)) pa_nil)))
      (pss_one (ps_set (i := 5) scPrt.nd rfl (Or.inl rfl) (pe_op op_sub (pe_op op_sub (pv 5) (pv 6)) pe_int))))))
      (pss_one (ps_ret (pe_op op_add_str (pe_op op_add_str pe_str (pe_join pe_str (pv 4))) pe_str)))))), ?_⟩
  refine ⟨_, rfl, (by show 4 ≤ sizeLine; decide), fun l1 hl1 => ?_⟩
  have s1 := same_new hl1 (.lst [.int 1, .int 3, .int 40, .int 2000])
  refine ⟨d, c, n, _, rfl, hp.same s1, by omega, .inl ⟨l1, _, rfl, upd_same, (by show 0 < 4; decide), (by show 4 < 1000; decide), fun y H2 hy b2 p2 => ?_⟩⟩
  obtain ⟨sz, rfl, sz1⟩ : ∃ sz : Nat, y = .int (sz : Int) ∧ 1 ≤ sz := by
    simp only [List.mem_cons, List.not_mem_nil, or_false] at hy
    rcases hy with rfl | rfl | rfl | rfl
    · exact ⟨1, rfl, by decide⟩
    · exact ⟨3, rfl, by decide⟩
    · exact ⟨40, rfl, by decide⟩
    · exact ⟨2000, rfl, by decide⟩
  refine ⟨_, rfl, (by show 5 ≤ sizeLine; decide), fun l3 hl3 => ?_⟩
  have s3 := same_new hl3 (.lst [.str "-", .str "7", .str "\"\"", .str "()", .str "yes"])
  refine ⟨d, c, n + 1, _, rfl, p2.same s3, by omega, .inl ⟨l3, _, rfl, upd_same, (by show 0 < 5; decide), (by show 5 < 1000; decide), fun y H4 hy b4 p4 => ⟨_, _, rfl, ?_⟩⟩⟩
  obtain ⟨pt, rfl, ptl, ptw⟩ : IsP y := by
    have lit : ∀ l : List Nat, (l.all fun c => decide (c < 128)) = true → Low l := fun l h c m => of_decide_eq_true (List.all_eq_true.mp h c m)
    have e2 : Str.ofString "\"\"" = S [34, 34] := by decide +kernel
    have e3 : Str.ofString "()" = S [40, 41] := by decide +kernel
    have e4 : Str.ofString "7" = S [55] := by decide +kernel
    simp only [List.mem_cons, List.not_mem_nil, or_false] at hy
    rcases hy with rfl | rfl | rfl | rfl | rfl
    · exact ⟨_, congrArg V.str e45, by decide, lit _ (by decide)⟩
    · exact ⟨_, congrArg V.str e4, by decide, lit _ (by decide)⟩
    · exact ⟨_, congrArg V.str e2, by decide, lit _ (by decide)⟩
    · exact ⟨_, congrArg V.str e3, by decide, lit _ (by decide)⟩
    · exact ⟨_, congrArg V.str eyes, by decide, lit _ (by decide)⟩
  have B4 : But d H H4 := But.trans (But.of_same s1) (But.trans b2 (But.trans (But.of_same s3) b4))
  refine ⟨Nat.zero_le _, fun f hf => ?_⟩
  have s5 := same_new hf (.lst [])
  have F5 : (upd H4 f (.lst [])) f = some (.lst []) := upd_same
  have p5 := p4.same s5
  have nfd : f ≠ d := (p4.not_none hf).symm
  have nfc : f ≠ c := fun e => by
    obtain ⟨cs, k', r', _, hc, _⟩ := p4
    rw [e, hc] at hf
    cases hf
  generalize upd H4 f (.lst []) = H5 at s5 F5 p5
  refine ⟨_, rfl, _, _, rfl, rfl, _, _, rfl, ?_⟩
  refine ⟨fun j σ H' => ∃ (ls : List (List Nat)) (o6 : Option V), σ = [some (.ref d), some (.int (m : Int)), some (.int (sz : Int)), some (.str (S pt)), some (.ref f), some (.int (j : Int)), o6] ∧ H' f = some (.lst (ls.map fun l => .str (S l))) ∧ (∀ l ∈ ls, Low l) ∧
    (ls.map (·.length)).sum + 4 * j ≤ 4 * m ∧ ls.length + j ≤ m ∧ But d H H' ∧ PenAt H' d c (n + 2), ⟨m - 1, [], none, ?_, F5, (fun l h => by cases h), by show 0 + _ ≤ _; omega, by show 0 + _ ≤ _; omega, But.trans B4 (But.of_same s5), p5⟩, ?_⟩
  · show _ = [_, _, _, _, _, some (V.int (((m - 1 : Nat)) : Int)), _]
    rw [show (((m - 1 : Nat)) : Int) = (m : Int) - 1 by omega]
    rfl
  rintro j σ H6 ⟨ls, o6, rfl, F6, lw, sm, cn, B6, p6⟩
  have e1s : (Str.ofString " ").length = 1 := by decide +kernel
  have jj : ∀ ls : List (List Nat), PySem.Txt.join (Str.ofString " ") (ls.map S) = S (TL.joinL [32] ls) := fun ls => by rw [e32, SX.join_S]
  refine ⟨_, rfl, _, _, rfl, rfl, _, rfl, ?_⟩
  refine ite2 (fun hj => ?_) (fun hj => ?_)
  · have hj' : (0 : Int) < (j : Int) := of_decide_eq_true hj
    obtain ⟨he, ehe, he1, he2⟩ : ∃ he : Nat, (if ((j : Int) - 1) < (sz : Int) then ((j : Int) - 1) else (sz : Int)) = (he : Int) ∧ he + 1 ≤ j ∧ he ≤ 2002 := by
      by_cases h : ((j : Int) - 1) < (sz : Int)
      · exact ⟨j - 1, by rw [if_pos h]; omega, by omega, by omega⟩
      · exact ⟨sz, by rw [if_neg h], by omega, by omega⟩
    refine ⟨fun σ' H'' => ∃ j', j' < j ∧ ∃ (ls : List (List Nat)) (o6 : Option V), σ' = [some (.ref d), some (.int (m : Int)), some (.int (sz : Int)), some (.str (S pt)), some (.ref f), some (.int (j' : Int)), o6] ∧ H'' f = some (.lst (ls.map fun l => .str (S l))) ∧ (∀ l ∈ ls, Low l) ∧
      (ls.map (·.length)).sum + 4 * j' ≤ 4 * m ∧ ls.length + j' ≤ m ∧ But d H H'' ∧ PenAt H'' d c (n + 2), fun _ _ z => z, ?_⟩
    refine ⟨_, rfl, _, rfl, _, _, rfl, rfl, _, _, rfl, ?_⟩
    rw [ehe]
    have fin : ∀ (p : List Nat) (H7 : Hp), Same H6 H7 → p.length ≤ 4 * he + 4 → Low p → ∃ j', j' < j ∧ ∃ (ls' : List (List Nat)) (o6 : Option V), [some (.ref d), some (.int (m : Int)), some (.int (sz : Int)), some (.str (S pt)), some (.ref f), some (.int ((j : Int) - (he : Int) - 1)), some (.int (he : Int))] = [some (V.ref d), some (.int (m : Int)), some (.int (sz : Int)), some (.str (S pt)), some (.ref f), some (.int (j' : Int)), o6] ∧
        (upd H7 f (.lst (ls.map (fun l => V.str (S l)) ++ [.str (S p)]))) f = some (.lst (ls'.map fun l => .str (S l))) ∧ (∀ l ∈ ls', Low l) ∧ (ls'.map (·.length)).sum + 4 * j' ≤ 4 * m ∧ ls'.length + j' ≤ m ∧ But d H (upd H7 f (.lst (ls.map (fun l => V.str (S l)) ++ [.str (S p)]))) ∧ PenAt (upd H7 f (.lst (ls.map (fun l => V.str (S l)) ++ [.str (S p)]))) d c (n + 2) := by
      intro p H7 s7 h1 h2
      refine ⟨j - he - 1, by omega, ls ++ [p], some (.int (he : Int)), ?_, by rw [upd_same, List.map_append]; rfl, fun l hl => ?_, ?_, ?_, fun b o n' e => ?_, (p6.same s7).other nfd nfc⟩
      · rw [show ((j - he - 1 : Nat) : Int) = (j : Int) - (he : Int) - 1 by omega]
      · rcases List.mem_append.mp hl with hl | hl
        · exact lw l hl
        · have e : l = p := by simpa using hl
          rw [e]; exact h2
      · rw [List.map_append, List.sum_append]
        show _ + (p.length + 0) + _ ≤ _
        omega
      · rw [List.length_append, List.length_singleton]; omega
      · have hfb : H f = none := by
          cases e : H f with
          | none => rfl
          | some o => exact absurd (B4 f o nfd e) (by rw [hf]; intro z; cases z)
        rw [upd_ne (ne_of_none e hfb)]
        exact s7 _ _ (B6 b o n' e)
    refine ⟨_, rfl, .inl ⟨rfl, _, .inl (.inl F6)⟩, ?_⟩
    refine ⟨_, rfl, _, _, rfl, rfl, _, rfl, ?_⟩
    refine ite2 (fun h0 => ?_) (fun h0 => ?_)
    · have h0' : (0 : Int) < (he : Int) := of_decide_eq_true h0
      refine ⟨⟨_, rfl⟩, _, rfl, (by show 1 ≤ sizeLine; decide), fun lp hlp => ?_⟩
      have s7 := same_new hlp (.lst [.str (S pt)])
      have P7 : (upd H6 lp (.lst [.str (S pt)])) lp = some (.lst [.str (S pt)]) := upd_same
      generalize upd H6 lp (.lst [.str (S pt)]) = H7 at s7 P7
      refine ⟨_, rfl, lp, _, _, rfl, rfl, P7, by omega, by omega, by rw [Int.toNat_natCast]; show 1 * he ≤ _; omega, fun lq hlq => ?_⟩
      rw [Int.toNat_natCast, flat_rep]
      have s8 := same_new hlq (.lst (List.replicate he (V.str (S pt))))
      have Q8 : (upd H7 lq (.lst (List.replicate he (V.str (S pt))))) lq = some (.lst (List.replicate he (V.str (S pt)))) := upd_same
      generalize upd H7 lq (.lst (List.replicate he (V.str (S pt)))) = H8 at s8 Q8
      have jl := join_len1 (List.replicate he pt)
      rw [List.map_replicate, sum_rep, List.length_replicate] at jl
      have pl : he * pt.length ≤ he * 3 := Nat.mul_le_mul_left he ptl
      refine ⟨_, lq, (List.replicate he pt).map S, rfl, rfl, .inl (SqL.of (by rw [List.map_map, List.map_replicate]; exact Q8)), by rw [sum_S, List.length_map, List.map_replicate, sum_rep, List.length_replicate, e1s]; omega, ?_⟩
      rw [jj, e40, e41]
      refine ⟨_, _, rfl, rfl, by rw [S_len, S_len]; show 1 + _ ≤ _; omega, _, _, rfl, rfl, by rw [S_app, S_len, S_len, List.length_append]; show 1 + _ + 1 ≤ _; omega, ?_⟩
      rw [S_app, S_app]
      have s68 := s7.trans s8
      refine ⟨f, _, _, rfl, rfl, s68 _ _ F6, by rw [List.length_map]; omega, ?_⟩
      refine ⟨_, rfl, _, rfl, _, _, rfl, rfl, _, _, rfl, rfl, ?_⟩
      exact fin _ H8 s68 (by rw [List.length_append, List.length_append]; show 1 + _ + 1 ≤ _; omega) (((Low.one (by decide)).app (Low.join (Low.one (by decide)) _ fun l m => by rw [List.eq_of_mem_replicate m]; exact ptw)).app (Low.one (by decide)))
    · refine ⟨_, rfl, f, _, _, rfl, rfl, F6, by rw [List.length_map]; omega, ?_⟩
      refine ⟨_, rfl, _, rfl, _, _, rfl, rfl, _, _, rfl, rfl, ?_⟩
      exact fin pt H6 (Same.refl _) (by omega) ptw
  · have jl := join_len1 ls
    refine ⟨⟨_, rfl⟩, _, rfl, _, f, ls.map S, rfl, rfl, .inl (SqL.of (by rw [List.map_map]; exact F6)), by rw [sum_S, List.length_map, e1s]; omega, ?_⟩
    rw [jj, e40, e41]
    refine ⟨_, _, rfl, rfl, by rw [S_len, S_len]; show 1 + _ ≤ _; omega, _, _, rfl, rfl, by rw [S_app, S_len, S_len, List.length_append]; show 1 + _ + 1 ≤ _; omega, ?_⟩
    rw [S_app, S_app]
    refine k _ _ (by rw [List.length_append, List.length_append]; show 1 + _ + 1 ≤ _; omega) (by rw [List.length_append, List.length_append]; show 1 ≤ 1 + _ + 1; omega) (((Low.one (by decide)).app (Low.join (Low.one (by decide)) ls lw)).app (Low.one (by decide))) B6 p6
end
end TK
namespace TK
open PySem L2
/-! ### a wide tuple of nothing -/
def dash (n : Nat) : List Nat := TL.joinL [32] (List.replicate n [45])
theorem dash_two (n : Nat) : dash (n + 2) = 45 :: 32 :: dash (n + 1) := rfl
theorem wrs_nones : ∀ n : Nat, wrs (List.replicate n .none) = List.replicate n [45]
  | 0 => rfl
  | n + 1 => by
    rw [List.replicate_succ, List.replicate_succ]
    show wr .none :: wrs (List.replicate n .none) = _
    rw [wrs_nones n]; rfl
theorem wr_nones (n : Nat) : wr (.tuple (List.replicate n .none)) = 40 :: (dash n ++ [41]) := by
  show [40] ++ TL.joinL [32] (wrs (List.replicate n .none)) ++ [41] = _
  rw [wrs_nones]; rfl
theorem gds_nones : ∀ n : Nat, gds (List.replicate n .none) = true
  | 0 => rfl
  | n + 1 => by
    rw [List.replicate_succ]
    show (true && gds (List.replicate n .none)) = true
    rw [gds_nones n]; rfl
theorem ptss_nones : ∀ n : Nat, ptss (List.replicate n .none) = n
  | 0 => rfl
  | n + 1 => by
    rw [List.replicate_succ]
    show 1 + ptss (List.replicate n .none) = n + 1
    rw [ptss_nones n]; omega
theorem dps_nones : ∀ n : Nat, dps (List.replicate n .none) ≤ 1
  | 0 => Nat.zero_le _
  | n + 1 => by
    rw [List.replicate_succ]
    show max 1 (dps (List.replicate n .none)) ≤ 1
    have := dps_nones n
    omega
theorem beg_dash {p : Nat} (h : p < 2000) : beg 1 p 45 = some ⟨.minus, 1, p + 1⟩ := by
  unfold beg
  rw [if_neg (by omega)]
  rfl
theorem verd_dash : ∀ (n p : Nat) (md : Md), (md = .part ∨ md = .first) → p + n + 1 ≤ 2000 → verd ⟨md, 1, p⟩ (dash (n + 1) ++ [41]) = none
  | 0, p, md, hm, hp => by
    have s1 : stp ⟨md, 1, p⟩ 45 = some ⟨.minus, 1, p + 1⟩ := by
      have e := beg_dash (p := p) (by omega)
      rcases hm with rfl | rfl <;> exact e
    have s2 : stp ⟨.minus, 1, p + 1⟩ 41 = some ⟨.fin, 0, p + 1⟩ := beh_close
    show verd ⟨md, 1, p⟩ [45, 41] = none
    rw [verd_step s1, verd_step s2]
    rfl
  | n + 1, p, md, hm, hp => by
    have s1 : stp ⟨md, 1, p⟩ 45 = some ⟨.minus, 1, p + 1⟩ := by
      have e := beg_dash (p := p) (by omega)
      rcases hm with rfl | rfl <;> exact e
    have s2 : stp ⟨.minus, 1, p + 1⟩ 32 = some ⟨.part, 1, p + 1⟩ := beh_space (o := 1) (p := p + 1) (by decide) (by omega)
    have ih := verd_dash n (p + 1) .part (.inl rfl) (by omega)
    rw [dash_two]
    show verd ⟨md, 1, p⟩ (45 :: 32 :: (dash (n + 1) ++ [41])) = none
    rw [verd_step s1, verd_step s2, ih]
    rfl
theorem verd_nones {n : Nat} (h : n + 2 ≤ 2000) : verd ⟨.part, 0, 0⟩ (wr (.tuple (List.replicate (n + 1) .none))) = none := by
  rw [wr_nones]
  have s1 : stp ⟨.part, 0, 0⟩ 40 = some ⟨.first, 1, 1⟩ := rfl
  rw [verd_step s1, verd_dash n 1 .first (.inr rfl) (by omega)]
  rfl
theorem none_of {t : PyData} (g : gx t = true) {l : List Nat} (h : wr t = 45 :: l) : (t = .none ∧ l = []) ∨ ∃ d ds, l = d :: ds ∧ 49 ≤ d := by
  cases t with
  | none => exact .inl ⟨rfl, (List.cons.inj h).2.symm⟩
  | bool b => cases b <;> exact absurd (List.cons.inj h).1 (by decide)
  | int i =>
    cases i with
    | ofNat n =>
      have e : wr (.int (Int.ofNat n)) = TL.numL n := intL_nat n
      rw [e] at h
      have := TL.numL_digits n 45 (by rw [h]; exact List.mem_cons_self)
      omega
    | negSucc m =>
      have e : wr (.int (Int.negSucc m)) = 45 :: TL.numL (m + 1) := intL_neg m
      rw [e] at h
      obtain ⟨d, ds, e2, h1, _⟩ := numL_head (m + 1) (Nat.succ_pos m)
      exact .inr ⟨d, ds, (List.cons.inj h).2.symm.trans e2, h1⟩
  | str x => exact absurd (List.cons.inj h).1 (by decide)
  | tuple ts => exact absurd (List.cons.inj h).1 (by decide)
  | list _ => cases g
  | dict _ => cases g
theorem dash_inv : ∀ (ts : List PyData) (n : Nat), gxs ts = true → TL.joinL [32] (wrs ts) = dash n → ts = List.replicate n .none
  | [], 0, _, _ => rfl
  | [], 1, _, h => by cases h
  | [], n + 2, _, h => by cases h
  | [t], n, g, h => by
    have g' : (gx t && true) = true := g
    rw [Bool.and_true] at g'
    have h' : wr t = dash n := h
    match n, h' with
    | 0, h' => exact absurd h' (wr_ne t g')
    | 1, h' =>
      rcases none_of g' h' with ⟨e, _⟩ | ⟨d, ds, e, _⟩
      · rw [e]; rfl
      · cases e
    | n + 2, h' =>
      rcases none_of g' (h'.trans (dash_two n)) with ⟨_, e⟩ | ⟨d, ds, e, hd⟩
      · cases e
      · have := (List.cons.inj e).1
        omega
  | t :: u :: ts, n, g, h => by
    have g' : (gx t && gxs (u :: ts)) = true := g
    rw [Bool.and_eq_true] at g'
    have h' : wr t ++ 32 :: TL.joinL [32] (wrs (u :: ts)) = dash n := h
    obtain ⟨c, l, hw⟩ : ∃ c l, wr t = c :: l := by
      cases e : wr t with
      | nil => exact absurd e (wr_ne t g'.1)
      | cons c l => exact ⟨c, l, rfl⟩
    rw [hw] at h'
    match n, h' with
    | 0, h' => cases h'
    | 1, h' =>
      have := congrArg List.length h'
      rw [List.length_append, List.length_cons, List.length_cons] at this
      have e1 : (dash 1).length = 1 := rfl
      omega
    | n + 2, h' =>
      rw [dash_two] at h'
      have hc : c = 45 := (List.cons.inj h').1
      have hr : l ++ 32 :: TL.joinL [32] (wrs (u :: ts)) = 32 :: dash (n + 1) := (List.cons.inj h').2
      subst hc
      rcases none_of g'.1 hw with ⟨e, el⟩ | ⟨d, ds, el, hd⟩
      · subst el
        rw [dash_inv (u :: ts) (n + 1) g'.2 (List.cons.inj hr).2, e]
        rfl
      · rw [el] at hr
        have := (List.cons.inj hr).1
        omega
/-- what has this text is this tuple -/
theorem text_nones {H : Hp} {x : V} {n : Nat} (h : IsText H x (wr (.tuple (List.replicate n .none)))) : Tr H x (.tuple (List.replicate n .none)) := by
  obtain ⟨T, tr, g, _, e⟩ := h
  rw [wr_nones] at e
  cases T with
  | tuple ts =>
    have e' : (40 :: (dash n ++ [41])) = [40] ++ TL.joinL [32] (wrs ts) ++ [41] := e
    have e2 : dash n = TL.joinL [32] (wrs ts) := List.append_cancel_right (List.cons.inj (e'.trans (List.append_assoc [40] _ [41]))).2
    rw [dash_inv ts n g e2.symm] at tr
    exact tr
  | none => exact absurd (List.cons.inj e).1 (by decide)
  | bool b => cases b <;> exact absurd (List.cons.inj e).1 (by decide)
  | int i =>
    cases i with
    | ofNat m =>
      have e1 : wr (.int (Int.ofNat m)) = TL.numL m := intL_nat m
      rw [e1] at e
      have := TL.numL_digits m 40 (by rw [← e]; exact List.mem_cons_self)
      omega
    | negSucc m =>
      have e1 : wr (.int (Int.negSucc m)) = 45 :: TL.numL (m + 1) := intL_neg m
      rw [e1] at e
      exact absurd (List.cons.inj e).1 (by decide)
  | str x => exact absurd (List.cons.inj e).1 (by decide)
  | list _ => cases g
  | dict _ => cases g
theorem trAll_nones (H : Hp) : ∀ n : Nat, TrAll H (List.replicate n .non) (List.replicate n .none)
  | 0 => .nil
  | n + 1 => .cons .non (trAll_nones H n)
theorem eqv_nones : ∀ n : Nat, PyData.eqvAll (List.replicate n .none) (List.replicate n .none) = true
  | 0 => rfl
  | n + 1 => by
    rw [List.replicate_succ]
    show (true && PyData.eqvAll (List.replicate n .none) (List.replicate n .none)) = true
    rw [eqv_nones n]; rfl
theorem lay_nones : ∀ n : Nat, PyData.canLayAll0 (List.replicate n .none) = true ∧ PyData.depthAll (List.replicate n .none) = 0
  | 0 => ⟨rfl, rfl⟩
  | n + 1 => by
    obtain ⟨a, b⟩ := lay_nones n
    rw [List.replicate_succ]
    refine ⟨?_, ?_⟩
    · show (true && PyData.canLayAll0 (List.replicate n .none)) = true
      rw [a]; rfl
    · show max 0 (PyData.depthAll (List.replicate n .none)) = 0
      rw [b]; rfl
theorem shaped_nones (n : Nat) : SeqAt.shaped (.tuple (List.replicate n .none)) = true := by
  obtain ⟨a, b⟩ := lay_nones n
  show (PyData.canLayAll0 (List.replicate n .none) && decide (PyData.depthAll (List.replicate n .none) + 1 ≤ 64)) = true
  rw [a, b]; rfl
end TK
namespace TK
open PySem L2
/-! ### law -/
/-- a text of at most n signs, all below 128 -/
def LS (n : Nat) (z : Str) : Prop := z.length ≤ n ∧ Low z.cps.toList
theorem LS.app {n m : Nat} {a b : Str} (h1 : LS n a) (h2 : LS m b) : LS (n + m) (a ++ b) := by
  have e : (a ++ b).cps.toList = a.cps.toList ++ b.cps.toList := by
    show (a.cps ++ b.cps).toList = _
    rw [Array.toList_append]
  refine ⟨?_, by rw [e]; exact h1.2.app h2.2⟩
  have l : (a ++ b).length = a.length + b.length := by
    show (a.cps ++ b.cps).size = _
    rw [Array.size_append]; rfl
  have := h1.1
  have := h2.1
  omega
theorem LS.rep {c : Nat} (h : c < 128) (n : Nat) : LS n (S (List.replicate n c)) := ⟨by rw [S_len, List.length_replicate]; exact Nat.le_refl _, fun x m => by rw [List.eq_of_mem_replicate m]; exact h⟩
theorem LS.of {l : List Nat} (h : Low l) : LS l.length (S l) := ⟨by rw [S_len]; exact Nat.le_refl _, h⟩
theorem LS.isS {n : Nat} {z : Str} (h : LS n z) (hn : n ≤ 50000) : IsS (.str z) := ⟨z, rfl, Nat.le_trans h.1 hn, h.2⟩
theorem LS.mono {n m : Nat} {z : Str} (h : LS n z) (l : n ≤ m) : LS m z := ⟨Nat.le_trans h.1 l, h.2⟩
def okL (n : Nat) (z : Str) : Bool := decide (z.length ≤ n) && z.cps.toList.all fun c => decide (c < 128)
theorem LS.lit {n : Nat} {z : Str} (h : okL n z = true) : LS n z := by
  have h' : (decide (z.length ≤ n) && z.cps.toList.all fun c => decide (c < 128)) = true := h
  rw [Bool.and_eq_true] at h'
  exact ⟨of_decide_eq_true h'.1, fun c m => of_decide_eq_true (List.all_eq_true.mp h'.2 c m)⟩
theorem LS.cut {n : Nat} {z : Str} (h : LS n z) (lo hi : Option Int) : LS n (cutS z lo hi) := ⟨Nat.le_trans (cutS_length z lo hi) h.1, (h.2.drop _).take _⟩
theorem LS.fit {n m : Nat} {a b : Str} (h1 : LS n a) (h2 : LS m b) (h : n + m ≤ 16777216) : a.length + b.length ≤ sizeLine := by
  have := h1.1
  have := h2.1
  rw [sizeLine_eq]
  omega
theorem e97 : Str.ofString "a" = S [97] := by decide +kernel
def spLaw (K : PySem.W.Frag) : Sp := fun vs H Q _ => ∃ (a : Addr) (ns : List Int), vs = [.ref a] ∧ SqL K H a (ns.map V.int) ∧ ns.length ≤ 63 ∧ ∀ H', Q (.bl true) H'
section
variable {P : Program} {w : World} {K : PySem.W.Frag} {mg : Str → Option Value} {base : Heap} {ad : Nm → Addr} {dd : Nm → FuncData}
theorem scLaw : FnScope ["_law_script", "_law_pen_here", "_law_turn", "_law_deep", "_law_part", "_law_digits", "_law_sign", "_law_some", "_law_flat", "_law_value", "_law_wide"] ["_law_script"] (defScope sLaw) := ⟨rfl, rfl, rfl, by decide +kernel, rfl, by decide +kernel, by decide +kernel⟩
theorem ok_law (T : Txt K mg ad dd) {fa : Addr} {fd : FuncData} (FL : Fun K "law" "law" sLaw fa fd) : FnOk P w K mg base CX0 32 fa fd ["_law_script"] (spLaw K) := by
  have GPen := ok_pen (P := P) (w := w) (base := base) T
  have GDraw := ok_draw (P := P) (w := w) (base := base) T
  have GPick := ok_pick (P := P) (w := w) (base := base) T
  have GPrt := ok_prt (P := P) (w := w) (base := base) T
  have GTold := ok_told (P := P) (w := w) (base := base) T
  have GDue := ok_due (P := P) (w := w) (base := base) T
  have GWT := ok_wt (P := P) (w := w) (base := base) T
  have GRT := ok_rt (P := P) (w := w) (base := base) T
  refine FL.ok scLaw (fun vs H Q E h => ?_) (fun cdv A outer s H vs Q E hr h => ?_)
  · obtain ⟨a, ns, rfl, _⟩ := h
    rfl
  obtain ⟨a, ns, rfl, hS, hn, q⟩ := h
  have hU := hr.units
  have hz : sizeLine = 16777216 := sizeLine_eq
  refine ⟨_, (pss_cons (ps_set (i := 1) scLaw.nd rfl (Or.inl rfl) (pe_call GPen (hr.mono (by first | decide | omega)) rfl T.Pen.m T.Pen.F.kp T.Pen.b .nil pass0 (pa_cons (pv 0) pa_nil)))
      (pss_cons (ps_for PassesOwn.never rfl (pi_range1 rfl T.n_range (pa_cons (pe_op op_add pe_int (pe_callB (call_min2 rfl) (by rfl) T.n_min bt_min (pa_cons pe_int (pa_cons (pe_callB call_len_seq (by rfl) T.n_len bt_len (pa_cons (pv 0) pa_nil)) pa_nil)))) pa_nil)) (pg_name (i := 2) scLaw.nd rfl (Or.inl rfl)) (pss_cons (ps_par (i := 3) (j := 4) rfl scLaw.nd rfl rfl (by decide) rfl rfl (pa_cons (pe_op op_add pe_int (pe_call GDraw (hr.mono (by first | decide | omega)) rfl T.Draw.m T.Draw.F.kp T.Draw.b .nil pass0 (pa_cons (pv 1) (pa_cons pe_int pa_nil)))) (pa_cons (pe_call GPick (hr.mono (by first | decide | omega)) rfl T.Pick.m T.Pick.F.kp T.Pick.b .nil pass0 (pa_cons (pv 1) (pa_cons (pe_lst (pa_cons pe_str (pa_cons pe_str (pa_cons pe_str (pa_cons pe_str (pa_cons pe_str (pa_cons pe_str (pa_cons pe_str (pa_cons pe_str (pa_cons pe_str pa_nil)))))))))) pa_nil))) pa_nil)) rfl)
      (pss_cons (ps_set (i := 5) scLaw.nd rfl (Or.inl rfl) (pe_call GPick (hr.mono (by first | decide | omega)) rfl T.Pick.m T.Pick.F.kp T.Pick.b .nil pass0 (pa_cons (pv 1) (pa_cons (pe_lst (pa_cons pe_int (pa_cons pe_int (pa_cons pe_int (pa_cons pe_int (pa_cons pe_int (pa_cons pe_int pa_nil))))))) pa_nil))))
      (pss_cons (ps_set (i := 6) scLaw.nd rfl (Or.inl rfl) (pe_call GPick (hr.mono (by first | decide | omega)) rfl T.Pick.m T.Pick.F.kp T.Pick.b .nil pass0 (pa_cons (pv 1) (pa_cons (pe_lst (pa_cons pe_str (pa_cons pe_str pa_nil))) pa_nil))))
      (pss_cons (ps_set (i := 7) scLaw.nd rfl (Or.inl rfl) (pe_lst (pa_cons (pe_op op_add_str (pe_op op_add_str (pe_op op_signs pe_str (pv 3)) (pv 4)) (pe_op op_signs pe_str (pv 3))) (pa_cons (pe_op op_add_str (pe_op op_signs pe_str pe_int) (pe_op op_signs pe_str pe_int)) (pa_cons (pe_op op_add_str (pe_op op_add_str (pe_op op_signs pe_str pe_int) pe_str) (pe_op op_signs pe_str pe_int)) (pa_cons (pe_op op_signs pe_str pe_int) pa_nil))))))
      (pss_cons (ps_expr (pe_bm PySem.F.plainAttrs_list PySem.F.slot_list_append PySem.F.type_list_append mt_append (pv 7) (pa_cons (pe_op op_add_str (pe_op op_add_str (pe_op op_signs pe_str pe_int) (pv 4)) (pe_op op_signs pe_str pe_int)) pa_nil)))
      (pss_cons (ps_set (i := 7) scLaw.nd rfl (Or.inl rfl) (pe_op op_cat (pv 7) (pe_lst (pa_cons (pe_op op_add_str (pv 6) (pe_op op_signs pe_str (pv 5))) (pa_cons (pe_op op_add_str (pe_op op_add_str (pe_op op_add_str (pe_op op_add_str pe_str (pv 6)) pe_str) (pe_op op_signs pe_str (pe_op op_sub (pv 5) pe_int))) pe_str) (pa_cons (pe_op op_add_str (pv 6) (pe_op op_signs pe_str (pv 5))) pa_nil))))))
      (pss_cons (ps_set (i := 7) scLaw.nd rfl (Or.inl rfl) (pe_op op_cat (pv 7) (pe_lst (pa_cons (pe_call GPrt (hr.mono (by first | decide | omega)) rfl T.Prt.m T.Prt.F.kp T.Prt.b .nil pass0 (pa_cons (pv 1) (pa_cons (pe_op op_add pe_int (pe_call GDraw (hr.mono (by first | decide | omega)) rfl T.Draw.m T.Draw.F.kp T.Draw.b .nil pass0 (pa_cons (pv 1) (pa_cons pe_int pa_nil)))) pa_nil))) (pa_cons (pe_op op_add_str (pe_op op_add_str pe_str (pe_op op_signs pe_str (pv 5))) pe_str) pa_nil)))))
      (pss_cons (ps_set (i := 8) scLaw.nd rfl (Or.inl rfl) (pe_op op_add_str pe_str (pe_join pe_str (pe_op op_rep (pe_lst (pa_cons pe_str pa_nil)) (pe_op op_add pe_int (pe_call GDraw (hr.mono (by first | decide | omega)) rfl T.Draw.m T.Draw.F.kp T.Draw.b .nil pass0 (pa_cons (pv 1) (pa_cons pe_int pa_nil))))))))
      (pss_cons (ps_set (i := 7) scLaw.nd rfl (Or.inl rfl) (pe_op op_cat (pv 7) (pe_lst (pa_cons (pe_op op_add_str (pv 8) pe_str) (pa_cons (pe_op op_add_str (pv 8) (pe_call GPick (hr.mono (by first | decide | omega)) rfl T.Pick.m T.Pick.F.kp T.Pick.b .nil pass0 (pa_cons (pv 1) (pa_cons (pe_lst (pa_cons pe_str (pa_cons pe_str (pa_cons pe_str (pa_cons pe_str (pa_cons pe_str (pa_cons pe_str (pa_cons pe_str pa_nil)))))))) pa_nil)))) pa_nil)))))
      (pss_one (ps_for PassesOwn.never rfl (pi_list (pe_op op_cat (pv 7) (pe_lst (pa_cons (pe_slice sl_str (pe_ix ix_list (pv 7) (pe_call GDraw (hr.mono (by first | decide | omega)) rfl T.Draw.m T.Draw.F.kp T.Draw.b .nil pass0 (pa_cons (pv 1) (pa_cons pe_int pa_nil))) (fun _ _ => rfl)) po_none (po_some (pe_un un_neg pe_int))) pa_nil)))) (pg_name (i := 9) scLaw.nd rfl (Or.inl rfl)) (pss_one (ps_if (pt_cmpR (op_neD hU) (pe_call GTold (hr.mono (by first | decide | omega)) rfl T.Told.m T.Told.F.kp T.Told.b .nil pass0 (pa_cons (pv 9) pa_nil)) (pe_call GDue (hr.mono (by first | decide | omega)) rfl T.Due.m T.Due.F.kp T.Due.b .nil pass0 (pa_cons (pv 9) pa_nil)) (nomark _)) (pss_one (ps_ret pe_bl)) pss_nil))))))))))))))
      (pss_cons (ps_set (i := 10) scLaw.nd rfl (Or.inl rfl) (pe_op op_manyT (pe_tup (pa_cons pe_non pa_nil)) pe_int))
      (pss_one (ps_ret (pe_cmpR (op_eqD hU) (pe_call GRT (hr.mono (by first | decide | omega)) rfl T.RT.m T.RT.F.kp T.RT.b .nil passL (pa_cons (pe_call GWT (hr.mono (by first | decide | omega)) rfl T.WT.m T.WT.F.kp T.WT.b .nil pass0 (pa_cons (pv 10) pa_nil)) pa_nil)) (pv 10) (nomark _))))))), ?_⟩
  rw [e40, e41, e57, e48, e97]
  refine ⟨_, rfl, a, ns, rfl, hS, fun d c H1 s1 dn p1 => ?_⟩
  have hl : (ns.map V.int).length = ns.length := List.length_map _
  have hj : ∃ j : Int, (1 : Int) + (if (((ns.map V.int).length : Nat) : Int) < 1 then (((ns.map V.int).length : Nat) : Int) else 1) = j ∧ 0 ≤ j ∧ j ≤ 2 := by
    refine ⟨_, rfl, ?_⟩
    split <;> omega
  obtain ⟨j, ej, j0, j1⟩ := hj
  refine ⟨_, rfl, a, _, rfl, .inl (s1.seq hS), _, _, rfl, _, _, rfl, rfl, _, rfl, ?_⟩
  rw [ej]
  refine ⟨by omega, by omega, for_range (n := j.toNat) (fun i σ H' => ∃ o2 o3 o4 o5 o6 o7 o8 o9 o10 : Option V, σ = [some (.ref a), some (.ref d), o2, o3, o4, o5, o6, o7, o8, o9, o10] ∧ PenAt H' d c (100 * i)) ⟨none, none, none, none, none, none, none, none, none, rfl, p1⟩ ?_ ?_⟩
  · rintro i σ H2 hi ⟨o2, o3, o4, o5, o6, o7, o8, o9, o10, rfl, p2⟩
    have hi' : i < 2 := by omega
    have c40 : (40 : Nat) < 128 := by decide
    have c41 : (41 : Nat) < 128 := by decide
    -- deep, part
    refine ⟨_, rfl, d, c, 100 * i, _, rfl, p2, by omega, by decide, by decide, fun r H3 r0 r1 b3 p3 => ⟨_, _, rfl, rfl, ?_⟩⟩
    obtain ⟨dn1, edn, dn28, dn31⟩ : ∃ n : Nat, (28 : Int) + r = (n : Int) ∧ 28 ≤ n ∧ n ≤ 31 := ⟨(28 + r).toNat, by omega, by omega, by omega⟩
    refine ⟨_, rfl, (by show 9 ≤ sizeLine; decide), fun l4 h4 => ?_⟩
    have s4 := same_new h4 (.lst [.str "", .str "1", .str "-", .str "\"a\"", .str "no", .str (S [40]), .str "()", .str "1 2", .str " "])
    refine ⟨d, c, 100 * i + 1, _, rfl, p3.same s4, by omega, .inl ⟨l4, _, rfl, upd_same, (by show 0 < 9; decide), (by show 9 < 1000; decide), fun y H5 hy b5 p5 => ⟨_, _, rfl, ?_⟩⟩⟩
    obtain ⟨pt, rfl, hpt⟩ : ∃ z, y = .str z ∧ LS 3 z := by
      simp only [List.mem_cons, List.not_mem_nil, or_false] at hy
      rcases hy with rfl | rfl | rfl | rfl | rfl | rfl | rfl | rfl | rfl <;> exact ⟨_, rfl, LS.lit (by decide +kernel)⟩
    dsimp only
    rw [edn]
    -- digits
    refine ⟨_, rfl, (by show 6 ≤ sizeLine; decide), fun l6 h6 => ?_⟩
    have s6 := same_new h6 (.lst [.int 99, .int 100, .int 101, .int 102, .int 4000, .int 5000])
    refine ⟨d, c, 100 * i + 2, _, rfl, p5.same s6, by omega, .inl ⟨l6, _, rfl, upd_same, (by show 0 < 6; decide), (by show 6 < 1000; decide), fun y H7 hy b7 p7 => ?_⟩⟩
    obtain ⟨dg, rfl, dg1, dg2⟩ : ∃ n : Nat, y = .int (n : Int) ∧ 99 ≤ n ∧ n ≤ 5000 := by
      simp only [List.mem_cons, List.not_mem_nil, or_false] at hy
      rcases hy with rfl | rfl | rfl | rfl | rfl | rfl
      · exact ⟨99, rfl, by decide, by decide⟩
      · exact ⟨100, rfl, by decide, by decide⟩
      · exact ⟨101, rfl, by decide, by decide⟩
      · exact ⟨102, rfl, by decide, by decide⟩
      · exact ⟨4000, rfl, by decide, by decide⟩
      · exact ⟨5000, rfl, by decide, by decide⟩
    -- sign
    refine ⟨_, rfl, (by show 2 ≤ sizeLine; decide), fun l8 h8 => ?_⟩
    have s8 := same_new h8 (.lst [.str "", .str "-"])
    refine ⟨d, c, 100 * i + 3, _, rfl, p7.same s8, by omega, .inl ⟨l8, _, rfl, upd_same, (by show 0 < 2; decide), (by show 2 < 1000; decide), fun y H9 hy b9 p9 => ?_⟩⟩
    obtain ⟨sg, rfl, hsg⟩ : ∃ z, y = .str z ∧ LS 1 z := by
      simp only [List.mem_cons, List.not_mem_nil, or_false] at hy
      rcases hy with rfl | rfl <;> exact ⟨_, rfl, LS.lit (by decide +kernel)⟩
    -- the first four
    have rp : ∀ {x : Nat} (n : Nat), x < 128 → LS n (S (List.replicate n x)) := fun n h => LS.rep h n
    have i1 := ((rp dn1 c40).app hpt).app (rp dn1 c41)
    have i2 := (rp 30 c40).app (rp 30 c41)
    have l7 : LS 1 (Str.ofString "7") := LS.lit (by decide +kernel)
    have i3 := ((rp 29 c40).app l7).app (rp 29 c41)
    have i4 := rp 31 c40
    refine ⟨_, rfl, 40, dn1, rfl, rfl, by omega, by omega, _, rfl, _, _, rfl, rfl, (rp dn1 c40).fit hpt (by omega), _, rfl, 41, dn1, rfl, rfl, by omega, by omega, _, _, rfl, rfl, ((rp dn1 c40).app hpt).fit (rp dn1 c41) (by omega),
      40, 30, rfl, rfl, by decide, by decide, 41, 30, rfl, rfl, by decide, by decide, _, _, rfl, rfl, (rp 30 c40).fit (rp 30 c41) (by decide),
      40, 29, rfl, rfl, by decide, by decide, _, _, rfl, rfl, (rp 29 c40).fit l7 (by decide), 41, 29, rfl, rfl, by decide, by decide, _, _, rfl, rfl, ((rp 29 c40).app l7).fit (rp 29 c41) (by decide),
      40, 31, rfl, rfl, by decide, by decide, (by show 4 ≤ sizeLine; decide), fun L hL => ?_⟩
    have all1 : ∀ v ∈ [V.str (S (List.replicate dn1 40) ++ pt ++ S (List.replicate dn1 41)), .str (S (List.replicate 30 40) ++ S (List.replicate 30 41)), .str (S (List.replicate 29 40) ++ Str.ofString "7" ++ S (List.replicate 29 41)), .str (S (List.replicate 31 40))], IsS v := by
      intro v hv
      simp only [List.mem_cons, List.not_mem_nil, or_false] at hv
      rcases hv with rfl | rfl | rfl | rfl
      · exact i1.isS (by omega)
      · exact i2.isS (by decide)
      · exact i3.isS (by decide)
      · exact i4.isS (by decide)
    generalize hx1 : [V.str (S (List.replicate dn1 40) ++ pt ++ S (List.replicate dn1 41)), .str (S (List.replicate 30 40) ++ S (List.replicate 30 41)), .str (S (List.replicate 29 40) ++ Str.ofString "7" ++ S (List.replicate 29 41)), .str (S (List.replicate 31 40))] = x1 at all1
    have x1l : x1.length = 4 := by rw [← hx1]; rfl
    have sL := same_new hL (.lst x1)
    have L0 : (upd H9 L (.lst x1)) L = some (.lst x1) := upd_same
    have pL := p9.same sL
    have nLd : L ≠ d := (p9.not_none hL).symm
    have nLc : L ≠ c := fun e => by
      obtain ⟨cs, k', r', _, hc, _⟩ := p9
      rw [e, hc] at hL
      cases hL
    generalize upd H9 L (.lst x1) = H10 at L0 pL
    -- twelve hundred brackets
    have i5 := ((rp 1200 c40).app hpt).app (rp 1200 c41)
    refine ⟨_, rfl, .inl ⟨rfl, _, .inl (.inl L0)⟩, 40, 1200, rfl, rfl, by decide, by decide, _, rfl, _, _, rfl, rfl, (rp 1200 c40).fit hpt (by decide), 41, 1200, rfl, rfl, by decide, by decide, _, _, rfl, rfl, ((rp 1200 c40).app hpt).fit (rp 1200 c41) (by decide), L, _, _, rfl, rfl, L0, by omega, ?_⟩
    have all2 : ∀ v ∈ x1 ++ [V.str (S (List.replicate 1200 40) ++ pt ++ S (List.replicate 1200 41))], IsS v := fun v hv => (List.mem_append.mp hv).elim (all1 v) fun h => by
      have e : v = V.str (S (List.replicate 1200 40) ++ pt ++ S (List.replicate 1200 41)) := by simpa using h
      rw [e]; exact i5.isS (by decide)
    have x2l : (x1 ++ [V.str (S (List.replicate 1200 40) ++ pt ++ S (List.replicate 1200 41))]).length = 5 := by rw [List.length_append, List.length_singleton]; omega
    generalize x1 ++ [V.str (S (List.replicate 1200 40) ++ pt ++ S (List.replicate 1200 41))] = x2 at all2 x2l
    have L1 : (upd H10 L (.lst x2)) L = some (.lst x2) := upd_same
    have pL1 : PenAt (upd H10 L (.lst x2)) d c _ := pL.other nLd nLc
    generalize upd H10 L (.lst x2) = H11 at L1 pL1
    -- great numbers
    have la : LS 3 (Str.ofString "(1 ") := LS.lit (by decide +kernel)
    have lb : LS 1 (Str.ofString "1") := LS.lit (by decide +kernel)
    have lc : LS 1 (S [41]) := ⟨by rw [S_len]; exact Nat.le_refl _, Low.one (by decide)⟩
    have r9 := rp dg (show (57 : Nat) < 128 by decide)
    have r0' := rp dg (show (48 : Nat) < 128 by decide)
    have r0m := rp (dg - 1) (show (48 : Nat) < 128 by decide)
    have edg : (dg : Int) - 1 = ((dg - 1 : Nat) : Int) := by omega
    have i6 := hsg.app r9
    have i7 := (((la.app hsg).app lb).app r0m).app lc
    have i8 := hsg.app r0'
    refine ⟨_, rfl, _, rfl, _, rfl, 57, dg, rfl, rfl, by omega, by omega, _, _, rfl, rfl, hsg.fit r9 (by omega),
      _, rfl, _, _, rfl, rfl, la.fit hsg (by decide), _, _, rfl, rfl, (la.app hsg).fit lb (by decide), _, rfl, _, _, rfl, rfl, 48, dg - 1, rfl, congrArg V.int edg, by omega, by omega, _, _, rfl, rfl, ((la.app hsg).app lb).fit r0m (by omega), _, _, rfl, rfl, (((la.app hsg).app lb).app r0m).fit lc (by omega),
      _, rfl, _, rfl, 48, dg, rfl, rfl, by omega, by omega, _, _, rfl, rfl, hsg.fit r0' (by omega), (by show 3 ≤ sizeLine; decide), fun M hM => ?_⟩
    have sM := same_new hM (.lst [V.str (sg ++ S (List.replicate dg 57)), .str (Str.ofString "(1 " ++ sg ++ Str.ofString "1" ++ S (List.replicate (dg - 1) 48) ++ S [41]), .str (sg ++ S (List.replicate dg 48))])
    refine ⟨L, M, _, _, rfl, rfl, sM _ _ L1, upd_same, by rw [x2l]; show 5 + 3 ≤ _; omega, fun N hN => ?_⟩
    have all3 : ∀ v ∈ x2 ++ [V.str (sg ++ S (List.replicate dg 57)), .str (Str.ofString "(1 " ++ sg ++ Str.ofString "1" ++ S (List.replicate (dg - 1) 48) ++ S [41]), .str (sg ++ S (List.replicate dg 48))], IsS v := fun v hv => (List.mem_append.mp hv).elim (all2 v) fun h => by
      simp only [List.mem_cons, List.not_mem_nil, or_false] at h
      rcases h with rfl | rfl | rfl
      · exact i6.isS (by omega)
      · exact i7.isS (by omega)
      · exact i8.isS (by omega)
    have x3l : (x2 ++ [V.str (sg ++ S (List.replicate dg 57)), .str (Str.ofString "(1 " ++ sg ++ Str.ofString "1" ++ S (List.replicate (dg - 1) 48) ++ S [41]), .str (sg ++ S (List.replicate dg 48))]).length = 8 := by rw [List.length_append, x2l]; rfl
    have pM := pL1.same sM
    generalize upd H11 M (.lst [V.str (sg ++ S (List.replicate dg 57)), .str (Str.ofString "(1 " ++ sg ++ Str.ofString "1" ++ S (List.replicate (dg - 1) 48) ++ S [41]), .str (sg ++ S (List.replicate dg 48))]) = H12 at hN pM
    generalize x2 ++ [V.str (sg ++ S (List.replicate dg 57)), .str (Str.ofString "(1 " ++ sg ++ Str.ofString "1" ++ S (List.replicate (dg - 1) 48) ++ S [41]), .str (sg ++ S (List.replicate dg 48))] = x3 at all3 x3l
    have N0 : (upd H12 N (.lst x3)) N = some (.lst x3) := upd_same
    have pN := pM.same (same_new hN (.lst x3))
    have nNd : N ≠ d := (pM.not_none hN).symm
    generalize upd H12 N (.lst x3) = H13 at N0 pN
    -- many parts
    refine ⟨_, rfl, _, rfl, _, rfl, d, c, _, _, rfl, pN, by omega, by decide, by decide, fun r2 H14 r20 r21 b14 p14 => ⟨_, _, rfl, rfl, ?_⟩⟩
    obtain ⟨m1, em1, m11, m12⟩ : ∃ n : Nat, (1999 : Int) + r2 = (n : Int) ∧ 1999 ≤ n ∧ n ≤ 2002 := ⟨(1999 + r2).toNat, by omega, by omega, by omega⟩
    refine ⟨d, c, 100 * i + 3 + 1 + 1, m1, congrArg (fun z => [V.ref d, V.int z]) em1, m12, by omega, p14, by omega, fun pl H15 pll _ plw b15 p15 => ?_⟩
    have lq : LS 1 (Str.ofString "\"") := LS.lit (by decide +kernel)
    have ra := rp dg (show (97 : Nat) < 128 by decide)
    have i9 : LS pl.length (S pl) := LS.of plw
    have i10 := (lq.app ra).app lq
    refine ⟨_, rfl, 97, dg, rfl, rfl, by omega, by omega, _, _, rfl, rfl, lq.fit ra (by omega), _, _, rfl, rfl, (lq.app ra).fit lq (by omega), (by show 2 ≤ sizeLine; decide), fun M2 hM2 => ?_⟩
    have N1 := b15 _ _ nNd (b14 _ _ nNd N0)
    have sM2 := same_new hM2 (.lst [V.str (S pl), .str (Str.ofString "\"" ++ S (List.replicate dg 97) ++ Str.ofString "\"")])
    refine ⟨N, M2, _, _, rfl, rfl, sM2 _ _ N1, upd_same, by rw [x3l]; show 8 + 2 ≤ _; omega, fun O hO => ?_⟩
    have all4 : ∀ v ∈ x3 ++ [V.str (S pl), .str (Str.ofString "\"" ++ S (List.replicate dg 97) ++ Str.ofString "\"")], IsS v := fun v hv => (List.mem_append.mp hv).elim (all3 v) fun h => by
      simp only [List.mem_cons, List.not_mem_nil, or_false] at h
      rcases h with rfl | rfl
      · exact i9.isS (by omega)
      · exact i10.isS (by omega)
    have x4l : (x3 ++ [V.str (S pl), .str (Str.ofString "\"" ++ S (List.replicate dg 97) ++ Str.ofString "\"")]).length = 10 := by rw [List.length_append, x3l]; rfl
    have pM2 := p15.same sM2
    generalize upd H15 M2 (.lst [V.str (S pl), .str (Str.ofString "\"" ++ S (List.replicate dg 97) ++ Str.ofString "\"")]) = H16 at hO pM2
    generalize x3 ++ [V.str (S pl), .str (Str.ofString "\"" ++ S (List.replicate dg 97) ++ Str.ofString "\"")] = x4 at all4 x4l
    have O0 : (upd H16 O (.lst x4)) O = some (.lst x4) := upd_same
    have pO := pM2.same (same_new hO (.lst x4))
    have nOd : O ≠ d := (pM2.not_none hO).symm
    generalize upd H16 O (.lst x4) = H17 at O0 pO
    -- one flat tuple
    refine ⟨⟨_, rfl⟩, (by show 1 ≤ sizeLine; decide), fun lp hlp => ?_⟩
    have s18 := same_new hlp (.lst [.str "-"])
    have P18 : (upd H17 lp (.lst [.str "-"])) lp = some (.lst [.str "-"]) := upd_same
    have O1 := s18 _ _ O0
    have p18 := pO.same s18
    have nPd : lp ≠ d := (pO.not_none hlp).symm
    generalize upd H17 lp (.lst [.str "-"]) = H18 at s18 P18 O1 p18
    refine ⟨_, rfl, d, c, _, _, rfl, p18, by omega, by decide, by decide, fun r3 H19 r30 r31 b19 p19 => ⟨_, _, rfl, rfl, ?_⟩⟩
    obtain ⟨fm, efm, fm1, fm2⟩ : ∃ n : Nat, (1998 : Int) + r3 = (n : Int) ∧ 1998 ≤ n ∧ n ≤ 2001 := ⟨(1998 + r3).toNat, by omega, by omega, by omega⟩
    have P19 := b19 _ _ nPd P18
    have O2 := b19 _ _ nOd O1
    refine ⟨lp, (fm : Int), _, rfl, congrArg V.int efm, P19, by omega, by omega, by rw [Int.toNat_natCast]; show 1 * fm ≤ _; omega, fun lq hlq => ?_⟩
    rw [Int.toNat_natCast, flat_rep]
    have s20 := same_new hlq (.lst (List.replicate fm (V.str "-")))
    have Q20 : (upd H19 lq (.lst (List.replicate fm (V.str "-")))) lq = some (.lst (List.replicate fm (V.str "-"))) := upd_same
    have O3 := s20 _ _ O2
    have p20 := p19.same s20
    generalize upd H19 lq (.lst (List.replicate fm (V.str "-"))) = H20 at s20 Q20 O3 p20
    have jl := join_len1 (List.replicate fm [45])
    rw [List.map_replicate, sum_rep, List.length_replicate] at jl
    have jl' : (TL.joinL [32] (List.replicate fm [45])).length ≤ fm * 1 + fm := jl
    have jj : ∀ ls : List (List Nat), PySem.Txt.join (Str.ofString " ") (ls.map S) = S (TL.joinL [32] ls) := fun ls => by rw [e32, SX.join_S]
    have e1s : (Str.ofString " ").length = 1 := by decide +kernel
    refine ⟨_, lq, (List.replicate fm [45]).map S, rfl, rfl, .inl (SqL.of (by rw [List.map_map, List.map_replicate]; rw [e45] at Q20; exact Q20)), by rw [sum_S, List.length_map, List.map_replicate, sum_rep, List.length_replicate, e1s]; show fm * 1 + _ ≤ _; omega, ?_⟩
    rw [jj]
    have ljj : LS (fm * 1 + fm) (S (TL.joinL [32] (List.replicate fm [45]))) := (LS.of (Low.join (Low.one (by decide)) _ fun l m => by rw [List.eq_of_mem_replicate m]; exact Low.one (by decide))).mono jl'
    generalize S (TL.joinL [32] (List.replicate fm [45])) = jt at ljj
    have lo : LS 1 (S [40]) := ⟨by rw [S_len]; exact Nat.le_refl _, Low.one (by decide)⟩
    refine ⟨_, _, rfl, rfl, lo.fit ljj (by omega), ?_⟩
    have lf := (lo.app ljj).mono (show _ ≤ 4100 by omega)
    generalize S [40] ++ jt = fl at lf
    -- and what follows it
    refine ⟨_, rfl, _, rfl, _, _, rfl, rfl, lf.fit lc (by decide), _, rfl, _, rfl, (by show 7 ≤ sizeLine; decide), fun l21 h21 => ?_⟩
    have s21 := same_new h21 (.lst [.str "", .str " ", .str " (", .str " ()", .str " ())", .str "))", .str ")("])
    refine ⟨d, c, _, _, rfl, p20.same s21, by omega, .inl ⟨l21, _, rfl, upd_same, (by show 0 < 7; decide), (by show 7 < 1000; decide), fun y H22 hy b22 p22 => ?_⟩⟩
    obtain ⟨tl, rfl, ltl⟩ : ∃ z, y = .str z ∧ LS 4 z := by
      simp only [List.mem_cons, List.not_mem_nil, or_false] at hy
      rcases hy with rfl | rfl | rfl | rfl | rfl | rfl | rfl <;> exact ⟨_, rfl, LS.lit (by decide +kernel)⟩
    have O4 := b22 _ _ nOd (s21 _ _ O3)
    have i11 := lf.app lc
    have i12 := lf.app ltl
    refine ⟨_, _, rfl, rfl, lf.fit ltl (by decide), (by show 2 ≤ sizeLine; decide), fun M3 hM3 => ?_⟩
    have sM3 := same_new hM3 (.lst [V.str (fl ++ S [41]), .str (fl ++ tl)])
    refine ⟨O, M3, _, _, rfl, rfl, sM3 _ _ O4, upd_same, by rw [x4l]; show 10 + 2 ≤ _; omega, fun R hR => ?_⟩
    have all5 : ∀ v ∈ x4 ++ [V.str (fl ++ S [41]), .str (fl ++ tl)], IsS v := fun v hv => (List.mem_append.mp hv).elim (all4 v) fun h => by
      simp only [List.mem_cons, List.not_mem_nil, or_false] at h
      rcases h with rfl | rfl
      · exact i11.isS (by decide)
      · exact i12.isS (by decide)
    have x5l : (x4 ++ [V.str (fl ++ S [41]), .str (fl ++ tl)]).length = 12 := by rw [List.length_append, x4l]; rfl
    have pM3 := p22.same sM3
    generalize upd H22 M3 (.lst [V.str (fl ++ S [41]), .str (fl ++ tl)]) = H23 at hR pM3
    generalize x4 ++ [V.str (fl ++ S [41]), .str (fl ++ tl)] = x5 at all5 x5l
    have R0 : (upd H23 R (.lst x5)) R = some (.lst x5) := upd_same
    have pR := pM3.same (same_new hR (.lst x5))
    have nRd : R ≠ d := (pM3.not_none hR).symm
    generalize upd H23 R (.lst x5) = H24 at R0 pR
    -- a cut of one of the first ten
    refine ⟨_, rfl, _, rfl, _, rfl, d, c, _, _, rfl, pR, by omega, by decide, by decide, fun r4 H25 r40 r41 b25 p25 => ?_⟩
    have R1 := b25 _ _ nRd R0
    have r4n : r4.toNat < x5.length := by omega
    obtain ⟨cz, ecz, czl, czw⟩ : IsS (x5[r4.toNat]'r4n) := all5 _ (List.getElem_mem r4n)
    have lcz : LS 50000 cz := ⟨czl, czw⟩
    refine ⟨R, _, _, _, rfl, rfl, SqL.of R1, at_of (j := r4.toNat) (by omega) (by rw [List.getElem?_eq_getElem r4n]), ?_⟩
    rw [ecz]
    refine ⟨_, rfl, _, rfl, cz, rfl, by omega, (by show 1 ≤ sizeLine; decide), fun M4 hM4 => ?_⟩
    have i13 := lcz.cut (none : Option Int) (some (-1))
    generalize cutS cz none (some (-1)) = cu at i13
    have sM4 := same_new hM4 (.lst [V.str cu])
    refine ⟨R, M4, _, _, rfl, rfl, sM4 _ _ R1, upd_same, by rw [x5l]; show 12 + 1 ≤ _; omega, fun Z hZ => ?_⟩
    have all6 : ∀ v ∈ x5 ++ [V.str cu], IsS v := fun v hv => (List.mem_append.mp hv).elim (all5 v) fun h => by
      have e : v = V.str cu := by simpa using h
      rw [e]; exact i13.isS (by decide)
    have pM4 := p25.same sM4
    generalize upd H25 M4 (.lst [V.str cu]) = H26 at hZ pM4
    generalize x5 ++ [V.str cu] = zs at all6
    have Z0 : (upd H26 Z (.lst zs)) Z = some (.lst zs) := upd_same
    have pZ := pM4.same (same_new hZ (.lst zs))
    generalize upd H26 Z (.lst zs) = H27 at Z0 pZ
    refine ⟨Z, rfl, ⟨zs, SqL.of Z0⟩, ?_⟩
    refine for_it (walk_list (xs := zs)) (fun _ σ H' => Same H27 H' ∧ ∃ o2 o3 o4 o5 o6 o7 o8 o9 o10 : Option V, σ = [some (.ref a), some (.ref d), o2, o3, o4, o5, o6, o7, o8, o9, o10]) ⟨Same.refl _, _, _, _, _, _, _, _, _, _, rfl⟩ (fun i σ H' _ h => SqL.of (h.1 _ _ Z0)) ?_ ?_
    · rintro k x σ H28 H29 hk ⟨s28, q2, q3, q4, q5, q6, q7, q8, q9, q10, rfl⟩ ⟨rfl, hx⟩
      have is := all6 x (List.mem_of_getElem? hx)
      obtain ⟨z, rfl, zl, zw⟩ := is
      have it : Itm H29 (.str z) := .str zl zw
      refine ⟨_, rfl, ?_⟩
      dsimp only [tNil, List.cons_append, List.nil_append]
      refine tell_item it fun t2 H30 r5 z2 s30 c1 c2 c3 e2 => ⟨_, rfl, ?_⟩
      dsimp only [tNil, List.cons_append, List.nil_append]
      refine tell_item (it.same s30) fun t3 H31 r6 z3 s31 c1' c2' c3' e3 => ?_
      have rr : r5 = r6 := by rw [c2 z rfl, c2' z rfl]
      subst rr
      have hv : (∃ z' : Str, V.str z = .str z' ∧ Low z'.cps.toList) ∨ r5 = some 0 := .inl ⟨z, rfl, zw⟩
      have hv' : (∃ z', V.str z = .str z') ∨ r5 = some 0 := .inl ⟨z, rfl⟩
      refine ⟨dueD (.str z) r5, dueD (.str z) r5, due_dp hv' (s31 _ _ e2), due_dp hv' e3, due_shaped hv, due_shaped hv, _, rfl, ?_⟩
      rw [due_eqv]
      exact iteF ⟨s28.trans (s30.trans s31), _, _, _, _, _, _, _, _, _, rfl⟩
    · rintro σ H28 ⟨s28, q2, q3, q4, q5, q6, q7, q8, q9, q10, rfl⟩
      exact ⟨_, _, _, _, _, _, _, _, _, rfl, (pZ.same s28).mono (by omega)⟩
  · rintro σ H2 ⟨o2, o3, o4, o5, o6, o7, o8, o9, o10, rfl, p2⟩
    refine ⟨(by show 1 ≤ sizeLine; decide), fun t1 ht1 => ?_⟩
    have s3 := same_new ht1 (.tup [.non])
    have T1 : (upd H2 t1 (.tup [.non])) t1 = some (.tup [.non]) := upd_same
    generalize upd H2 t1 (.tup [.non]) = H3 at s3 T1
    refine ⟨t1, 1999, .non, rfl, rfl, SqT.of T1, by decide, by decide, fun t2 ht2 => ?_⟩
    have T2 : (upd H3 t2 (.tup (List.replicate 1999 .non))) t2 = some (.tup (List.replicate 1999 .non)) := upd_same
    generalize upd H3 t2 (.tup (List.replicate 1999 .non)) = H4 at T2
    have tr : Tr H4 (.ref t2) (.tuple (List.replicate 1999 .none)) := .tup T2 (trAll_nones H4 1999)
    have hp : pts (.tuple (List.replicate 1999 .none)) ≤ 2000 := by
      show ptss (List.replicate 1999 .none) + 1 ≤ 2000
      rw [ptss_nones]
      decide
    have gg : gd (.tuple (List.replicate 1999 .none)) = true := gds_nones 1999
    have wl := wr_len (.tuple (List.replicate 1999 .none)) gg
    refine ⟨_, rfl, .ref t2, _, rfl, tr, gg, hp, fun H5 s5 => ?_⟩
    have vn : verd ⟨.part, 0, 0⟩ (wr (.tuple (List.replicate 1999 .none))) = none := verd_nones (n := 1998) (by decide)
    refine .inl ⟨wr (.tuple (List.replicate 1999 .none)), rfl, by omega, fun j' d' H' hv => ?_, fun x H6 s6 it _ => ?_⟩
    · rw [vn] at hv
      cases hv
    · have tx := text_nones it
      have t2' := Tr.keep (Tups.of_same (s5.trans s6)) _ _ tr
      refine ⟨_, rfl, .tuple (List.replicate 1999 .none), .tuple (List.replicate 1999 .none), Tr.dp_ _ _ tx, Tr.dp_ _ _ t2', shaped_nones 1999, shaped_nones 1999, ?_⟩
      rw [show PyData.eqv (.tuple (List.replicate 1999 .none)) (.tuple (List.replicate 1999 .none)) = true from eqv_nones 1999]
      exact q _
end
end TK
namespace TK
open PySem L2 PyProof.Rows
/-! ### the top: what stands there -/
theorem all_mk {l : PySem.W.OpenLaw} {w : World} {K : PySem.W.Frag} {h : Heap} {mg : Str → Option Value} {fa C CN : Addr} (X : K.In h) (G : h.Ns mainGlobals mg) (hfa : mg "law" = some (.ref fa))
    {fPen fDraw fPick fPrt fWT fLeaf fDig fWrit fBeh fBeg fFit fWrA fTold fDue fRT fPlain fNI fRI fRW fRB fRG fRE fRF fRS fRN fRQ fLaw : Addr} {odPen anPen odDraw anDraw odPick anPick odPrt anPrt odWT anWT odLeaf anLeaf odDig anDig odWrit anWrit odBeh anBeh odBeg anBeg odFit anFit odWrA anWrA odTold anTold odDue anDue odRT anRT odPlain anPlain odNI anNI odRI anRI odRW anRW odRB anRB odRG anRG odRE anRE odRF anRF odRS anRS odRN anRN odRQ anRQ odLaw anLaw : Option Addr} {slPen slDraw slPick slPrt slWT slLeaf slDig slWrit slBeh slBeg slFit slWrA slTold slDue slRT slPlain slNI slRI slRW slRB slRG slRE slRF slRS slRN slRQ slLaw : Array (Option Value)}
    {ocPen kVPen dcPen pmPen cdPen ctPen ocDraw kVDraw dcDraw pmDraw cdDraw ctDraw ocPick kVPick dcPick pmPick cdPick ctPick ocPrt kVPrt dcPrt pmPrt cdPrt ctPrt ocWT kVWT dcWT pmWT cdWT ctWT ocLeaf kVLeaf dcLeaf pmLeaf cdLeaf ctLeaf ocDig kVDig dcDig pmDig cdDig ctDig ocWrit kVWrit dcWrit pmWrit cdWrit ctWrit ocBeh kVBeh dcBeh pmBeh cdBeh ctBeh ocBeg kVBeg dcBeg pmBeg cdBeg ctBeg ocFit kVFit dcFit pmFit cdFit ctFit ocWrA kVWrA dcWrA pmWrA cdWrA ctWrA ocTold kVTold dcTold pmTold cdTold ctTold ocDue kVDue dcDue pmDue cdDue ctDue ocRT kVRT dcRT pmRT cdRT ctRT ocPlain kVPlain dcPlain pmPlain cdPlain ctPlain ocNI kVNI dcNI pmNI cdNI ctNI ocRI kVRI dcRI pmRI cdRI ctRI ocRW kVRW dcRW pmRW cdRW ctRW ocRB kVRB dcRB pmRB cdRB ctRB ocRG kVRG dcRG pmRG cdRG ctRG ocRE kVRE dcRE pmRE cdRE ctRE ocRF kVRF dcRF pmRF cdRF ctRF ocRS kVRS dcRS pmRS cdRS ctRS ocRN kVRN dcRN pmRN cdRN ctRN ocRQ kVRQ dcRQ pmRQ cdRQ ctRQ ocLaw kVLaw dcLaw pmLaw cdLaw ctLaw : Value} {vPARTS vDEEP vDIGITS vPIECED vPIECE : Int} {tPARTS tDEEP tDIGITS tPIECED tPIECE : Tok}
    {nmN qN : Str} {nsN : Addr} {bsN : List Value} {snN : List Str} {subN : List Value} {abN : Bool} {colN : Option Bool} {ddN : Option Addr} {n0 n1 n2 n3 n5 : Option Value}
    (aC : PySem.W.nsIn K mainGlobals "Reader" = some (some (.ref C))) (aCN : PySem.W.nsIn K mainGlobals "NoText" = some (some (.ref CN)))
    (aPen : PySem.W.nsIn K mainGlobals "_law_pen" = some (some (.ref fPen)))
    (lPen : K.lookup fPen = some ⟨ocPen, odPen, .func (PySem.W.fnOf "_law_pen" "_law_pen" (defArgs sPen) (defBody sPen) (defScope sPen) .none kVPen dcPen pmPen anPen cdPen ctPen), slPen⟩)
    (cPen : PySem.W.codeIn K cdPen "_law_pen" = true) (kPen : PySem.W.keepIn K (.ref fPen) = true)
    (aDraw : PySem.W.nsIn K mainGlobals "_law_draw" = some (some (.ref fDraw)))
    (lDraw : K.lookup fDraw = some ⟨ocDraw, odDraw, .func (PySem.W.fnOf "_law_draw" "_law_draw" (defArgs sDraw) (defBody sDraw) (defScope sDraw) .none kVDraw dcDraw pmDraw anDraw cdDraw ctDraw), slDraw⟩)
    (cDraw : PySem.W.codeIn K cdDraw "_law_draw" = true) (kDraw : PySem.W.keepIn K (.ref fDraw) = true)
    (aPick : PySem.W.nsIn K mainGlobals "_law_pick" = some (some (.ref fPick)))
    (lPick : K.lookup fPick = some ⟨ocPick, odPick, .func (PySem.W.fnOf "_law_pick" "_law_pick" (defArgs sPick) (defBody sPick) (defScope sPick) .none kVPick dcPick pmPick anPick cdPick ctPick), slPick⟩)
    (cPick : PySem.W.codeIn K cdPick "_law_pick" = true) (kPick : PySem.W.keepIn K (.ref fPick) = true)
    (aPrt : PySem.W.nsIn K mainGlobals "_law_parts_text" = some (some (.ref fPrt)))
    (lPrt : K.lookup fPrt = some ⟨ocPrt, odPrt, .func (PySem.W.fnOf "_law_parts_text" "_law_parts_text" (defArgs sPrt) (defBody sPrt) (defScope sPrt) .none kVPrt dcPrt pmPrt anPrt cdPrt ctPrt), slPrt⟩)
    (cPrt : PySem.W.codeIn K cdPrt "_law_parts_text" = true) (kPrt : PySem.W.keepIn K (.ref fPrt) = true)
    (aWT : PySem.W.nsIn K mainGlobals "write_tree" = some (some (.ref fWT)))
    (lWT : K.lookup fWT = some ⟨ocWT, odWT, .func (PySem.W.fnOf "write_tree" "write_tree" (defArgs sWT) (defBody sWT) (defScope sWT) .none kVWT dcWT pmWT anWT cdWT ctWT), slWT⟩)
    (cWT : PySem.W.codeIn K cdWT "write_tree" = true) (kWT : PySem.W.keepIn K (.ref fWT) = true)
    (aLeaf : PySem.W.nsIn K mainGlobals "_leaf_text" = some (some (.ref fLeaf)))
    (lLeaf : K.lookup fLeaf = some ⟨ocLeaf, odLeaf, .func (PySem.W.fnOf "_leaf_text" "_leaf_text" (defArgs sLeaf) (defBody sLeaf) (defScope sLeaf) .none kVLeaf dcLeaf pmLeaf anLeaf cdLeaf ctLeaf), slLeaf⟩)
    (cLeaf : PySem.W.codeIn K cdLeaf "_leaf_text" = true) (kLeaf : PySem.W.keepIn K (.ref fLeaf) = true)
    (aDig : PySem.W.nsIn K mainGlobals "_digits" = some (some (.ref fDig)))
    (lDig : K.lookup fDig = some ⟨ocDig, odDig, .func (PySem.W.fnOf "_digits" "_digits" (defArgs sDig) (defBody sDig) (defScope sDig) .none kVDig dcDig pmDig anDig cdDig ctDig), slDig⟩)
    (cDig : PySem.W.codeIn K cdDig "_digits" = true) (kDig : PySem.W.keepIn K (.ref fDig) = true)
    (aWrit : PySem.W.nsIn K mainGlobals "_law_written" = some (some (.ref fWrit)))
    (lWrit : K.lookup fWrit = some ⟨ocWrit, odWrit, .func (PySem.W.fnOf "_law_written" "_law_written" (defArgs sWrit) (defBody sWrit) (defScope sWrit) .none kVWrit dcWrit pmWrit anWrit cdWrit ctWrit), slWrit⟩)
    (cWrit : PySem.W.codeIn K cdWrit "_law_written" = true) (kWrit : PySem.W.keepIn K (.ref fWrit) = true)
    (aBeh : PySem.W.nsIn K mainGlobals "_law_behind" = some (some (.ref fBeh)))
    (lBeh : K.lookup fBeh = some ⟨ocBeh, odBeh, .func (PySem.W.fnOf "_law_behind" "_law_behind" (defArgs sBeh) (defBody sBeh) (defScope sBeh) .none kVBeh dcBeh pmBeh anBeh cdBeh ctBeh), slBeh⟩)
    (cBeh : PySem.W.codeIn K cdBeh "_law_behind" = true) (kBeh : PySem.W.keepIn K (.ref fBeh) = true)
    (aBeg : PySem.W.nsIn K mainGlobals "_law_begins" = some (some (.ref fBeg)))
    (lBeg : K.lookup fBeg = some ⟨ocBeg, odBeg, .func (PySem.W.fnOf "_law_begins" "_law_begins" (defArgs sBeg) (defBody sBeg) (defScope sBeg) .none kVBeg dcBeg pmBeg anBeg cdBeg ctBeg), slBeg⟩)
    (cBeg : PySem.W.codeIn K cdBeg "_law_begins" = true) (kBeg : PySem.W.keepIn K (.ref fBeg) = true)
    (aFit : PySem.W.nsIn K mainGlobals "_law_fits" = some (some (.ref fFit)))
    (lFit : K.lookup fFit = some ⟨ocFit, odFit, .func (PySem.W.fnOf "_law_fits" "_law_fits" (defArgs sFit) (defBody sFit) (defScope sFit) .none kVFit dcFit pmFit anFit cdFit ctFit), slFit⟩)
    (cFit : PySem.W.codeIn K cdFit "_law_fits" = true) (kFit : PySem.W.keepIn K (.ref fFit) = true)
    (aWrA : PySem.W.nsIn K mainGlobals "_law_wrong_at" = some (some (.ref fWrA)))
    (lWrA : K.lookup fWrA = some ⟨ocWrA, odWrA, .func (PySem.W.fnOf "_law_wrong_at" "_law_wrong_at" (defArgs sWrA) (defBody sWrA) (defScope sWrA) .none kVWrA dcWrA pmWrA anWrA cdWrA ctWrA), slWrA⟩)
    (cWrA : PySem.W.codeIn K cdWrA "_law_wrong_at" = true) (kWrA : PySem.W.keepIn K (.ref fWrA) = true)
    (aTold : PySem.W.nsIn K mainGlobals "_law_read_told" = some (some (.ref fTold)))
    (lTold : K.lookup fTold = some ⟨ocTold, odTold, .func (PySem.W.fnOf "_law_read_told" "_law_read_told" (defArgs sTold) (defBody sTold) (defScope sTold) .none kVTold dcTold pmTold anTold cdTold ctTold), slTold⟩)
    (cTold : PySem.W.codeIn K cdTold "_law_read_told" = true) (kTold : PySem.W.keepIn K (.ref fTold) = true)
    (aDue : PySem.W.nsIn K mainGlobals "_law_read_due" = some (some (.ref fDue)))
    (lDue : K.lookup fDue = some ⟨ocDue, odDue, .func (PySem.W.fnOf "_law_read_due" "_law_read_due" (defArgs sDue) (defBody sDue) (defScope sDue) .none kVDue dcDue pmDue anDue cdDue ctDue), slDue⟩)
    (cDue : PySem.W.codeIn K cdDue "_law_read_due" = true) (kDue : PySem.W.keepIn K (.ref fDue) = true)
    (aRT : PySem.W.nsIn K mainGlobals "read_tree" = some (some (.ref fRT)))
    (lRT : K.lookup fRT = some ⟨ocRT, odRT, .func (PySem.W.fnOf "read_tree" "read_tree" (defArgs sRT) (defBody sRT) (defScope sRT) .none kVRT dcRT pmRT anRT cdRT ctRT), slRT⟩)
    (cRT : PySem.W.codeIn K cdRT "read_tree" = true) (kRT : PySem.W.keepIn K (.ref fRT) = true)
    (aPlain : PySem.W.nsIn K mainGlobals "is_plain" = some (some (.ref fPlain)))
    (lPlain : K.lookup fPlain = some ⟨ocPlain, odPlain, .func (PySem.W.fnOf "is_plain" "is_plain" (defArgs sPlain) (defBody sPlain) (defScope sPlain) .none kVPlain dcPlain pmPlain anPlain cdPlain ctPlain), slPlain⟩)
    (cPlain : PySem.W.codeIn K cdPlain "is_plain" = true) (kPlain : PySem.W.keepIn K (.ref fPlain) = true)
    (aNI : PySem.W.findIn K (.ref CN) "__init__" = some (some (.ref fNI))) (tNI : PySem.W.typeIn K (.ref fNI) = some (.type "function"))
    (lNI : K.lookup fNI = some ⟨ocNI, odNI, .func (PySem.W.fnOf "__init__" "NoText.__init__" (defArgs sNI) (defBody sNI) (defScope sNI) .none kVNI dcNI pmNI anNI cdNI ctNI), slNI⟩)
    (cNI : PySem.W.codeIn K cdNI "NoText.__init__" = true) (kNI : PySem.W.keepIn K (.ref fNI) = true)
    (aRI : PySem.W.findIn K (.ref C) "__init__" = some (some (.ref fRI))) (iRI : PySem.W.isFn K (.ref fRI) = true)
    (lRI : K.lookup fRI = some ⟨ocRI, odRI, .func (PySem.W.fnOf "__init__" "Reader.__init__" (defArgs sRI) (defBody sRI) (defScope sRI) .none kVRI dcRI pmRI anRI cdRI ctRI), slRI⟩)
    (cRI : PySem.W.codeIn K cdRI "Reader.__init__" = true) (kRI : PySem.W.keepIn K (.ref fRI) = true)
    (aRW : PySem.W.findIn K (.ref C) "whole" = some (some (.ref fRW))) (iRW : PySem.W.isFn K (.ref fRW) = true)
    (lRW : K.lookup fRW = some ⟨ocRW, odRW, .func (PySem.W.fnOf "whole" "Reader.whole" (defArgs sRW) (defBody sRW) (defScope sRW) .none kVRW dcRW pmRW anRW cdRW ctRW), slRW⟩)
    (cRW : PySem.W.codeIn K cdRW "Reader.whole" = true) (kRW : PySem.W.keepIn K (.ref fRW) = true)
    (aRB : PySem.W.findIn K (.ref C) "begin_part" = some (some (.ref fRB))) (iRB : PySem.W.isFn K (.ref fRB) = true)
    (lRB : K.lookup fRB = some ⟨ocRB, odRB, .func (PySem.W.fnOf "begin_part" "Reader.begin_part" (defArgs sRB) (defBody sRB) (defScope sRB) .none kVRB dcRB pmRB anRB cdRB ctRB), slRB⟩)
    (cRB : PySem.W.codeIn K cdRB "Reader.begin_part" = true) (kRB : PySem.W.keepIn K (.ref fRB) = true)
    (aRG : PySem.W.findIn K (.ref C) "go_on" = some (some (.ref fRG))) (iRG : PySem.W.isFn K (.ref fRG) = true)
    (lRG : K.lookup fRG = some ⟨ocRG, odRG, .func (PySem.W.fnOf "go_on" "Reader.go_on" (defArgs sRG) (defBody sRG) (defScope sRG) .none kVRG dcRG pmRG anRG cdRG ctRG), slRG⟩)
    (cRG : PySem.W.codeIn K cdRG "Reader.go_on" = true) (kRG : PySem.W.keepIn K (.ref fRG) = true)
    (aRE : PySem.W.findIn K (.ref C) "end_part" = some (some (.ref fRE))) (iRE : PySem.W.isFn K (.ref fRE) = true)
    (lRE : K.lookup fRE = some ⟨ocRE, odRE, .func (PySem.W.fnOf "end_part" "Reader.end_part" (defArgs sRE) (defBody sRE) (defScope sRE) .none kVRE dcRE pmRE anRE cdRE ctRE), slRE⟩)
    (cRE : PySem.W.codeIn K cdRE "Reader.end_part" = true) (kRE : PySem.W.keepIn K (.ref fRE) = true)
    (aRF : PySem.W.findIn K (.ref C) "following" = some (some (.ref fRF))) (iRF : PySem.W.isFn K (.ref fRF) = true)
    (lRF : K.lookup fRF = some ⟨ocRF, odRF, .func (PySem.W.fnOf "following" "Reader.following" (defArgs sRF) (defBody sRF) (defScope sRF) .none kVRF dcRF pmRF anRF cdRF ctRF), slRF⟩)
    (cRF : PySem.W.codeIn K cdRF "Reader.following" = true) (kRF : PySem.W.keepIn K (.ref fRF) = true)
    (aRS : PySem.W.findIn K (.ref C) "spell" = some (some (.ref fRS))) (iRS : PySem.W.isFn K (.ref fRS) = true)
    (lRS : K.lookup fRS = some ⟨ocRS, odRS, .func (PySem.W.fnOf "spell" "Reader.spell" (defArgs sRS) (defBody sRS) (defScope sRS) .none kVRS dcRS pmRS anRS cdRS ctRS), slRS⟩)
    (cRS : PySem.W.codeIn K cdRS "Reader.spell" = true) (kRS : PySem.W.keepIn K (.ref fRS) = true)
    (aRN : PySem.W.findIn K (.ref C) "read_number" = some (some (.ref fRN))) (iRN : PySem.W.isFn K (.ref fRN) = true)
    (lRN : K.lookup fRN = some ⟨ocRN, odRN, .func (PySem.W.fnOf "read_number" "Reader.read_number" (defArgs sRN) (defBody sRN) (defScope sRN) .none kVRN dcRN pmRN anRN cdRN ctRN), slRN⟩)
    (cRN : PySem.W.codeIn K cdRN "Reader.read_number" = true) (kRN : PySem.W.keepIn K (.ref fRN) = true)
    (aRQ : PySem.W.findIn K (.ref C) "read_string" = some (some (.ref fRQ))) (iRQ : PySem.W.isFn K (.ref fRQ) = true)
    (lRQ : K.lookup fRQ = some ⟨ocRQ, odRQ, .func (PySem.W.fnOf "read_string" "Reader.read_string" (defArgs sRQ) (defBody sRQ) (defScope sRQ) .none kVRQ dcRQ pmRQ anRQ cdRQ ctRQ), slRQ⟩)
    (cRQ : PySem.W.codeIn K cdRQ "Reader.read_string" = true) (kRQ : PySem.W.keepIn K (.ref fRQ) = true)
    (aLaw : PySem.W.nsIn K mainGlobals "law" = some (some (.ref fLaw)))
    (lLaw : K.lookup fLaw = some ⟨ocLaw, odLaw, .func (PySem.W.fnOf "law" "law" (defArgs sLaw) (defBody sLaw) (defScope sLaw) .none kVLaw dcLaw pmLaw anLaw cdLaw ctLaw), slLaw⟩)
    (cLaw : PySem.W.codeIn K cdLaw "law" = true) (kLaw : PySem.W.keepIn K (.ref fLaw) = true)
    (pg : PySem.W.plainGet K C Str.empty = true) (hd : PySem.W.hasDictIn K C = true) (po : PySem.W.plainOver K C = true) (sa : PySem.W.findIn K (.ref C) "__setattr__" = some (some (.builtin "object.__setattr__")))
    (mk : PySem.W.makesIn K C = true) (kc : PySem.W.keepIn K (.ref C) = true)
    (xN : K.lookup CN = some (excClassObj nmN qN CN nsN bsN [.type "ValueError", .type "Exception", .type "BaseException", .type "object"] true snN subN abN colN ddN n0 n1 n2 n3 n5 "ValueError.__new__"))
    (saN : PySem.W.findIn K (.ref CN) "__setattr__" = some (some (.builtin "object.__setattr__"))) (gaN : PySem.W.findIn K (.ref CN) "__getattribute__" = some (some (.builtin "BaseException.__getattribute__"))) (ggN : PySem.W.findIn K (.ref CN) "__getattr__" = some none)
    (noN : PySem.W.findIn K (.ref CN) "index" = some none) (kN : PySem.W.keepIn K (.ref CN) = true) (eN : PySem.W.subIn K (.ref CN) (.type "BaseException") = some true) (vN : PySem.W.subIn K (.ref CN) (.type "ValueError") = some true)
    (tN : PySem.W.typeIn K (.ref CN) = some (.type "type")) (hN : PySem.W.hasDictIn K CN = true) (sN : PySem.W.subIn K (.ref CN) (.ref CN) = some true)
    (n_text : PySem.W.findIn K (.ref C) "text" = some none)
    (n_most_parts : PySem.W.findIn K (.ref C) "most_parts" = some none)
    (n_most_deep : PySem.W.findIn K (.ref C) "most_deep" = some none)
    (n_at : PySem.W.findIn K (.ref C) "at" = some none)
    (n_many : PySem.W.findIn K (.ref C) "many" = some none)
    (n_unclosed : PySem.W.findIn K (.ref C) "unclosed" = some none)
    (n_result : PySem.W.findIn K (.ref C) "result" = some none)
    (z_len : PySem.W.nsIn K mainGlobals "len" = some none)
    (z_int : PySem.W.nsIn K mainGlobals "int" = some none)
    (z_abs : PySem.W.nsIn K mainGlobals "abs" = some none)
    (z_list : PySem.W.nsIn K mainGlobals "list" = some none)
    (z_str : PySem.W.nsIn K mainGlobals "str" = some none)
    (z_tuple : PySem.W.nsIn K mainGlobals "tuple" = some none)
    (z_bool : PySem.W.nsIn K mainGlobals "bool" = some none)
    (z_range : PySem.W.nsIn K mainGlobals "range" = some none)
    (z_min : PySem.W.nsIn K mainGlobals "min" = some none)
    (z_repr : PySem.W.nsIn K mainGlobals "repr" = some none)
    (z_divmod : PySem.W.nsIn K mainGlobals "divmod" = some none)
    (z_reversed : PySem.W.nsIn K mainGlobals "reversed" = some none)
    (z_isinstance : PySem.W.nsIn K mainGlobals "isinstance" = some none)
    (z_ValueError : PySem.W.nsIn K mainGlobals "ValueError" = some none)
    (gPARTS : PySem.W.nsIn K mainGlobals "MOST_PARTS" = some (some (.int vPARTS tPARTS))) (ePARTS : vPARTS = 2000)
    (gDEEP : PySem.W.nsIn K mainGlobals "MOST_DEEP" = some (some (.int vDEEP tDEEP))) (eDEEP : vDEEP = 30)
    (gDIGITS : PySem.W.nsIn K mainGlobals "MOST_DIGITS" = some (some (.int vDIGITS tDIGITS))) (eDIGITS : vDIGITS = 100)
    (gPIECED : PySem.W.nsIn K mainGlobals "PIECE_DIGITS" = some (some (.int vPIECED tPIECED))) (ePIECED : vPIECED = 64)
    (gPIECE : PySem.W.nsIn K mainGlobals "PIECE" = some (some (.int vPIECE tPIECE))) (ePIECE : vPIECE = 10 ^ 64) :
    ∃ fd : FuncData, (∀ (s : Shared) (v : Value), BindsTo s fd ⟨[v], []⟩ [("_law_script", v)]) ∧ ∀ base : Heap, K.In base → base.Ns mainGlobals mg → FnOk l.prog w K mg base CX0 32 fa fd ["_law_script"] (spLaw K) := by
  have e := hfa.symm.trans (PySem.W.mg_of X G aLaw)
  cases e
  subst ePARTS eDEEP eDIGITS ePIECED ePIECE
  have FPen := fun_mk (st := sPen) lPen cPen kPen
  have FDraw := fun_mk (st := sDraw) lDraw cDraw kDraw
  have FPick := fun_mk (st := sPick) lPick cPick kPick
  have FPrt := fun_mk (st := sPrt) lPrt cPrt kPrt
  have FWT := fun_mk (st := sWT) lWT cWT kWT
  have FLeaf := fun_mk (st := sLeaf) lLeaf cLeaf kLeaf
  have FDig := fun_mk (st := sDig) lDig cDig kDig
  have FWrit := fun_mk (st := sWrit) lWrit cWrit kWrit
  have FBeh := fun_mk (st := sBeh) lBeh cBeh kBeh
  have FBeg := fun_mk (st := sBeg) lBeg cBeg kBeg
  have FFit := fun_mk (st := sFit) lFit cFit kFit
  have FWrA := fun_mk (st := sWrA) lWrA cWrA kWrA
  have FTold := fun_mk (st := sTold) lTold cTold kTold
  have FDue := fun_mk (st := sDue) lDue cDue kDue
  have FRT := fun_mk (st := sRT) lRT cRT kRT
  have FPlain := fun_mk (st := sPlain) lPlain cPlain kPlain
  have FNI := fun_mk (st := sNI) lNI cNI kNI
  have FRI := fun_mk (st := sRI) lRI cRI kRI
  have FRW := fun_mk (st := sRW) lRW cRW kRW
  have FRB := fun_mk (st := sRB) lRB cRB kRB
  have FRG := fun_mk (st := sRG) lRG cRG kRG
  have FRE := fun_mk (st := sRE) lRE cRE kRE
  have FRF := fun_mk (st := sRF) lRF cRF kRF
  have FRS := fun_mk (st := sRS) lRS cRS kRS
  have FRN := fun_mk (st := sRN) lRN cRN kRN
  have FRQ := fun_mk (st := sRQ) lRQ cRQ kRQ
  have FLaw := fun_mk (st := sLaw) lLaw cLaw kLaw
  have bPen := FPen.binds (ps := ["_law_script"]) fun _ _ _ _ _ _ us hl => match us, hl with | [_], _ => rfl
  have bDraw := FDraw.binds (ps := ["_law_pen_here", "_law_many"]) fun _ _ _ _ _ _ us hl => match us, hl with | [_, _], _ => rfl
  have bPick := FPick.binds (ps := ["_law_pen_here", "_law_items"]) fun _ _ _ _ _ _ us hl => match us, hl with | [_, _], _ => rfl
  have bPrt := FPrt.binds (ps := ["_law_pen_here", "_law_many"]) fun _ _ _ _ _ _ us hl => match us, hl with | [_, _], _ => rfl
  have bWT := FWT.binds (ps := ["tree"]) fun _ _ _ _ _ _ us hl => match us, hl with | [_], _ => rfl
  have bLeaf := FLeaf.binds (ps := ["leaf"]) fun _ _ _ _ _ _ us hl => match us, hl with | [_], _ => rfl
  have bDig := FDig.binds (ps := ["n"]) fun _ _ _ _ _ _ us hl => match us, hl with | [_], _ => rfl
  have bWrit := FWrit.binds (ps := ["_law_tree"]) fun _ _ _ _ _ _ us hl => match us, hl with | [_], _ => rfl
  have bBeh := FBeh.binds (ps := ["_law_here", "_law_sign"]) fun _ _ _ _ _ _ us hl => match us, hl with | [_, _], _ => rfl
  have bBeg := FBeg.binds (ps := ["_law_here", "_law_sign"]) fun _ _ _ _ _ _ us hl => match us, hl with | [_, _], _ => rfl
  have bFit := FFit.binds (ps := ["_law_here", "_law_sign"]) fun _ _ _ _ _ _ us hl => match us, hl with | [_, _], _ => rfl
  have bWrA := FWrA.binds (ps := ["_law_text"]) fun _ _ _ _ _ _ us hl => match us, hl with | [_], _ => rfl
  have bTold := FTold.binds (ps := ["_law_value"]) fun _ _ _ _ _ _ us hl => match us, hl with | [_], _ => rfl
  have bDue := FDue.binds (ps := ["_law_value"]) fun _ _ _ _ _ _ us hl => match us, hl with | [_], _ => rfl
  have bRT := FRT.binds (ps := ["text"]) fun _ _ _ _ _ _ us hl => match us, hl with | [_], _ => rfl
  have bPlain := FPlain.binds (ps := ["sign"]) fun _ _ _ _ _ _ us hl => match us, hl with | [_], _ => rfl
  have bNI := FNI.binds (ps := ["self", "index"]) fun _ _ _ _ _ _ us hl => match us, hl with | [_, _], _ => rfl
  have bRI := FRI.binds (ps := ["self", "text", "most_parts", "most_deep"]) fun _ _ _ _ _ _ us hl => match us, hl with | [_, _, _, _], _ => rfl
  have bRW := FRW.binds (ps := ["self"]) fun _ _ _ _ _ _ us hl => match us, hl with | [_], _ => rfl
  have bRB := FRB.binds (ps := ["self"]) fun _ _ _ _ _ _ us hl => match us, hl with | [_], _ => rfl
  have bRG := FRG.binds (ps := ["self"]) fun _ _ _ _ _ _ us hl => match us, hl with | [_], _ => rfl
  have bRE := FRE.binds (ps := ["self", "part"]) fun _ _ _ _ _ _ us hl => match us, hl with | [_, _], _ => rfl
  have bRF := FRF.binds (ps := ["self"]) fun _ _ _ _ _ _ us hl => match us, hl with | [_], _ => rfl
  have bRS := FRS.binds (ps := ["self", "signs"]) fun _ _ _ _ _ _ us hl => match us, hl with | [_, _], _ => rfl
  have bRN := FRN.binds (ps := ["self"]) fun _ _ _ _ _ _ us hl => match us, hl with | [_], _ => rfl
  have bRQ := FRQ.binds (ps := ["self"]) fun _ _ _ _ _ _ us hl => match us, hl with | [_], _ => rfl
  have T : Txt K mg (fun n => match n with | .Pen => fPen | .Draw => fDraw | .Pick => fPick | .Prt => fPrt | .WT => fWT | .Leaf => fLeaf | .Dig => fDig | .Writ => fWrit | .Beh => fBeh | .Beg => fBeg | .Fit => fFit | .WrA => fWrA | .Told => fTold | .Due => fDue | .RT => fRT | .Plain => fPlain | .NI => fNI | .RI => fRI | .RW => fRW | .RB => fRB | .RG => fRG | .RE => fRE | .RF => fRF | .RS => fRS | .RN => fRN | .RQ => fRQ | .NoText => CN | .Reader => C) (fun n => match n with | .Pen => _ | .Draw => _ | .Pick => _ | .Prt => _ | .WT => _ | .Leaf => _ | .Dig => _ | .Writ => _ | .Beh => _ | .Beg => _ | .Fit => _ | .WrA => _ | .Told => _ | .Due => _ | .RT => _ | .Plain => _ | .NI => _ | .RI => _ | .RW => _ | .RB => _ | .RG => _ | .RE => _ | .RF => _ | .RS => _ | .RN => _ | .RQ => _ | .NoText => PySem.W.fnOf "law" "law" (defArgs sLaw) (defBody sLaw) (defScope sLaw) .none kVLaw dcLaw pmLaw anLaw cdLaw ctLaw | .Reader => PySem.W.fnOf "law" "law" (defArgs sLaw) (defBody sLaw) (defScope sLaw) .none kVLaw dcLaw pmLaw anLaw cdLaw ctLaw) := {
    n_len := PySem.W.mg_none_of X G z_len
    n_int := PySem.W.mg_none_of X G z_int
    n_abs := PySem.W.mg_none_of X G z_abs
    n_list := PySem.W.mg_none_of X G z_list
    n_str := PySem.W.mg_none_of X G z_str
    n_tuple := PySem.W.mg_none_of X G z_tuple
    n_bool := PySem.W.mg_none_of X G z_bool
    n_range := PySem.W.mg_none_of X G z_range
    n_min := PySem.W.mg_none_of X G z_min
    n_repr := PySem.W.mg_none_of X G z_repr
    n_divmod := PySem.W.mg_none_of X G z_divmod
    n_reversed := PySem.W.mg_none_of X G z_reversed
    n_isinstance := PySem.W.mg_none_of X G z_isinstance
    n_ValueError := PySem.W.mg_none_of X G z_ValueError
    gMOST_PARTS := ⟨_, PySem.W.mg_of X G gPARTS⟩
    gMOST_DEEP := ⟨_, PySem.W.mg_of X G gDEEP⟩
    gMOST_DIGITS := ⟨_, PySem.W.mg_of X G gDIGITS⟩
    gPIECE_DIGITS := ⟨_, PySem.W.mg_of X G gPIECED⟩
    gPIECE := ⟨_, PySem.W.mg_of X G gPIECE⟩
    Pen := ⟨FPen, PySem.W.mg_of X G aPen, bPen⟩
    Draw := ⟨FDraw, PySem.W.mg_of X G aDraw, bDraw⟩
    Pick := ⟨FPick, PySem.W.mg_of X G aPick, bPick⟩
    Prt := ⟨FPrt, PySem.W.mg_of X G aPrt, bPrt⟩
    WT := ⟨FWT, PySem.W.mg_of X G aWT, bWT⟩
    Leaf := ⟨FLeaf, PySem.W.mg_of X G aLeaf, bLeaf⟩
    Dig := ⟨FDig, PySem.W.mg_of X G aDig, bDig⟩
    Writ := ⟨FWrit, PySem.W.mg_of X G aWrit, bWrit⟩
    Beh := ⟨FBeh, PySem.W.mg_of X G aBeh, bBeh⟩
    Beg := ⟨FBeg, PySem.W.mg_of X G aBeg, bBeg⟩
    Fit := ⟨FFit, PySem.W.mg_of X G aFit, bFit⟩
    WrA := ⟨FWrA, PySem.W.mg_of X G aWrA, bWrA⟩
    Told := ⟨FTold, PySem.W.mg_of X G aTold, bTold⟩
    Due := ⟨FDue, PySem.W.mg_of X G aDue, bDue⟩
    RT := ⟨FRT, PySem.W.mg_of X G aRT, bRT⟩
    Plain := ⟨FPlain, PySem.W.mg_of X G aPlain, bPlain⟩
    NI := ⟨FNI, bNI⟩
    RI := ⟨FRI, bRI⟩
    RW := ⟨FRW, ⟨aRW, iRW, kRW⟩, bRW⟩
    RB := ⟨FRB, ⟨aRB, iRB, kRB⟩, bRB⟩
    RG := ⟨FRG, ⟨aRG, iRG, kRG⟩, bRG⟩
    RE := ⟨FRE, ⟨aRE, iRE, kRE⟩, bRE⟩
    RF := ⟨FRF, ⟨aRF, iRF, kRF⟩, bRF⟩
    RS := ⟨FRS, ⟨aRS, iRS, kRS⟩, bRS⟩
    RN := ⟨FRN, ⟨aRN, iRN, kRN⟩, bRN⟩
    RQ := ⟨FRQ, ⟨aRQ, iRQ, kRQ⟩, bRQ⟩
    oex := ⟨⟨nmN, qN, nsN, bsN, _, snN, subN, abN, colN, ddN, n0, n1, n2, n3, n5, xN, by decide +kernel⟩, saN, eN, tN, kN⟩
    iNo := aNI
    tNI := tNI
    mgNo := PySem.W.mg_of X G aCN
    noIx := noN
    exm := PySem.W.exm_ref eN hN tN sN
    xf := ⟨gaN, ggN, eN, hN⟩
    subVE := vN
    cl := ⟨pg, hd, po, sa⟩
    mkR := ⟨mk, aRI, iRI, kc⟩
    mgReader := PySem.W.mg_of X G aC
    aText := n_text
    aMost_parts := n_most_parts
    aMost_deep := n_most_deep
    aAt := n_at
    aMany := n_many
    aUnclosed := n_unclosed
    aResult := n_result
    }
  exact ⟨_, fun s v => .of_eq rfl, fun base _ _ => ok_law T FLaw⟩
theorem walk_k {l : PySem.W.OpenLaw} {q : Program} {loose : List Str} {XP : (Str → Option Value) → Heap → Prop} {YP : World → Heap → Prop} {d : DefRec} {K : Params → PySem.W.Frag} (most : l.most = some 63) (plain : d.params.defaults = [])
    (hY : ∀ (w : World) (h : Heap), YP w h → (K w.params).In h)
    (F : ∀ (w : World) (mg : Str → Option Value) (fa : Addr) (h : Heap), (K w.params).In h → h.Ns mainGlobals mg → mg d.name = some (.ref fa) →
      ∃ fd : FuncData, (∀ (s : Shared) (u : Value), BindsTo s fd ⟨[u], []⟩ [("_law_script", u)]) ∧ ∀ base : Heap, (K w.params).In base → base.Ns mainGlobals mg → FnOk l.prog w (K w.params) mg base CX0 32 fa fd ["_law_script"] (spLaw (K w.params))) :
    PySem.W.WalkO q loose XP YP l.row.toRowW d [] (fun f vs => PySem.call f vs) :=
  walk_ofK (n := 63) (k := 32) (x := "_law_script") (CX := CX0) (sp := spLaw) most (by decide) plain ⟨rfl, by decide, by decide⟩ hY F (fun _ _ a ns hl _ hS => ⟨a, ns, rfl, hS, hl, fun _ => rfl⟩) fun _ _ _ _ z => z
end TK
open PySem PySem.W PyProof.Rows in
set_option maxRecDepth 100000 in
set_option maxHeartbeats 0 in
theorem PySem.Challenge.cw_deedstore_k02_bounds_of_trees_holds : PySem.Challenge.rw_deedstore_k02_bounds_of_trees.Holds := by
  w_on; o_law; k_head; (case hw => w_witness2)
  k_fill
  refine TK.walk_k (l := PySem.Challenge.rw_deedstore_k02_bounds_of_trees) rfl rfl (fun w h Y => PySem.W.kIn_of Y) ?F
  case F =>
    intro w mg fa h KX G hmg
    refine' TK.all_mk KX G hmg ?aC ?aCN ?aPen ?lPen ?cPen ?kPen ?aDraw ?lDraw ?cDraw ?kDraw ?aPick ?lPick ?cPick ?kPick ?aPrt ?lPrt ?cPrt ?kPrt ?aWT ?lWT ?cWT ?kWT ?aLeaf ?lLeaf ?cLeaf ?kLeaf ?aDig ?lDig ?cDig ?kDig ?aWrit ?lWrit ?cWrit ?kWrit ?aBeh ?lBeh ?cBeh ?kBeh ?aBeg ?lBeg ?cBeg ?kBeg ?aFit ?lFit ?cFit ?kFit ?aWrA ?lWrA ?cWrA ?kWrA ?aTold ?lTold ?cTold ?kTold ?aDue ?lDue ?cDue ?kDue ?aRT ?lRT ?cRT ?kRT ?aPlain ?lPlain ?cPlain ?kPlain ?aNI ?tNI ?lNI ?cNI ?kNI ?aRI ?iRI ?lRI ?cRI ?kRI ?aRW ?iRW ?lRW ?cRW ?kRW ?aRB ?iRB ?lRB ?cRB ?kRB ?aRG ?iRG ?lRG ?cRG ?kRG ?aRE ?iRE ?lRE ?cRE ?kRE ?aRF ?iRF ?lRF ?cRF ?kRF ?aRS ?iRS ?lRS ?cRS ?kRS ?aRN ?iRN ?lRN ?cRN ?kRN ?aRQ ?iRQ ?lRQ ?cRQ ?kRQ ?aLaw ?lLaw ?cLaw ?kLaw ?pg ?hd ?po ?sa ?mk ?kc ?xN ?saN ?gaN ?ggN ?noN ?kN ?eN ?vN ?tN ?hN ?sN ?n_text ?n_most_parts ?n_most_deep ?n_at ?n_many ?n_unclosed ?n_result ?z_len ?z_int ?z_abs ?z_list ?z_str ?z_tuple ?z_bool ?z_range ?z_min ?z_repr ?z_divmod ?z_reversed ?z_isinstance ?z_ValueError ?gPARTS ?ePARTS ?gDEEP ?eDEEP ?gDIGITS ?eDIGITS ?gPIECED ?ePIECED ?gPIECE ?ePIECE
    (case aC => k_is)
    (case aCN => k_is)
    (case aPen => k_is)
    (case lPen => k_is)
    (case cPen => k_is)
    (case kPen => k_is)
    (case aDraw => k_is)
    (case lDraw => k_is)
    (case cDraw => k_is)
    (case kDraw => k_is)
    (case aPick => k_is)
    (case lPick => k_is)
    (case cPick => k_is)
    (case kPick => k_is)
    (case aPrt => k_is)
    (case lPrt => k_is)
    (case cPrt => k_is)
    (case kPrt => k_is)
    (case aWT => k_is)
    (case lWT => k_is)
    (case cWT => k_is)
    (case kWT => k_is)
    (case aLeaf => k_is)
    (case lLeaf => k_is)
    (case cLeaf => k_is)
    (case kLeaf => k_is)
    (case aDig => k_is)
    (case lDig => k_is)
    (case cDig => k_is)
    (case kDig => k_is)
    (case aWrit => k_is)
    (case lWrit => k_is)
    (case cWrit => k_is)
    (case kWrit => k_is)
    (case aBeh => k_is)
    (case lBeh => k_is)
    (case cBeh => k_is)
    (case kBeh => k_is)
    (case aBeg => k_is)
    (case lBeg => k_is)
    (case cBeg => k_is)
    (case kBeg => k_is)
    (case aFit => k_is)
    (case lFit => k_is)
    (case cFit => k_is)
    (case kFit => k_is)
    (case aWrA => k_is)
    (case lWrA => k_is)
    (case cWrA => k_is)
    (case kWrA => k_is)
    (case aTold => k_is)
    (case lTold => k_is)
    (case cTold => k_is)
    (case kTold => k_is)
    (case aDue => k_is)
    (case lDue => k_is)
    (case cDue => k_is)
    (case kDue => k_is)
    (case aRT => k_is)
    (case lRT => k_is)
    (case cRT => k_is)
    (case kRT => k_is)
    (case aPlain => k_is)
    (case lPlain => k_is)
    (case cPlain => k_is)
    (case kPlain => k_is)
    (case aNI => k_is)
    (case tNI => k_is)
    (case lNI => k_is)
    (case cNI => k_is)
    (case kNI => k_is)
    (case aRI => k_is)
    (case iRI => k_is)
    (case lRI => k_is)
    (case cRI => k_is)
    (case kRI => k_is)
    (case aRW => k_is)
    (case iRW => k_is)
    (case lRW => k_is)
    (case cRW => k_is)
    (case kRW => k_is)
    (case aRB => k_is)
    (case iRB => k_is)
    (case lRB => k_is)
    (case cRB => k_is)
    (case kRB => k_is)
    (case aRG => k_is)
    (case iRG => k_is)
    (case lRG => k_is)
    (case cRG => k_is)
    (case kRG => k_is)
    (case aRE => k_is)
    (case iRE => k_is)
    (case lRE => k_is)
    (case cRE => k_is)
    (case kRE => k_is)
    (case aRF => k_is)
    (case iRF => k_is)
    (case lRF => k_is)
    (case cRF => k_is)
    (case kRF => k_is)
    (case aRS => k_is)
    (case iRS => k_is)
    (case lRS => k_is)
    (case cRS => k_is)
    (case kRS => k_is)
    (case aRN => k_is)
    (case iRN => k_is)
    (case lRN => k_is)
    (case cRN => k_is)
    (case kRN => k_is)
    (case aRQ => k_is)
    (case iRQ => k_is)
    (case lRQ => k_is)
    (case cRQ => k_is)
    (case kRQ => k_is)
    (case aLaw => k_is)
    (case lLaw => k_is)
    (case cLaw => k_is)
    (case kLaw => k_is)
    (case pg => k_is)
    (case hd => k_is)
    (case po => k_is)
    (case sa => k_is)
    (case mk => k_is)
    (case kc => k_is)
    (case xN => k_is)
    (case saN => k_is)
    (case gaN => k_is)
    (case ggN => k_is)
    (case noN => k_is)
    (case kN => k_is)
    (case eN => k_is)
    (case vN => k_is)
    (case tN => k_is)
    (case hN => k_is)
    (case sN => first | rfl | k_is)
    (case n_text => k_is)
    (case n_most_parts => k_is)
    (case n_most_deep => k_is)
    (case n_at => k_is)
    (case n_many => k_is)
    (case n_unclosed => k_is)
    (case n_result => k_is)
    (case z_len => k_is)
    (case z_int => k_is)
    (case z_abs => k_is)
    (case z_list => k_is)
    (case z_str => k_is)
    (case z_tuple => k_is)
    (case z_bool => k_is)
    (case z_range => k_is)
    (case z_min => k_is)
    (case z_repr => k_is)
    (case z_divmod => k_is)
    (case z_reversed => k_is)
    (case z_isinstance => k_is)
    (case z_ValueError => k_is)
    (case gPARTS => k_is)
    (case gDEEP => k_is)
    (case gDIGITS => k_is)
    (case gPIECED => k_is)
    (case gPIECE => k_is)
    (case ePARTS => rfl)
    (case eDEEP => rfl)
    (case eDIGITS => rfl)
    (case ePIECED => rfl)
    (case ePIECE => rfl)
