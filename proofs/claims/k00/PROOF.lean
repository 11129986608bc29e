import PyProof.Rows.All
import Wide.All
import OpenK.AllK
import Wide.FinOn
import HandS.Base
import HandS.Call
import HandS.List
import HandS.Comp
import HandS.Ends
import HandS.Dict
import HandS.Iter
import HandS.Text
import HandS.Words
import HandS.Wide
import HandS.Evl
import HandS.WordsList
import PyProof.ReprLen
import HandS.Codes
import HandS.ReplaceLit
import HandS.ReplaceList
import HandS.ReplaceDef
import HandS.IsInst
import HandS.Rev
import HandS.MapObj
import HandS.StrMore
import HandS.WideBits
import HandS.Walk
import KE.IntTextLaws
import PyProof.ReprRoads
import PySem.Challenge.RW_deedstore_k00_trees_written_and_read
set_option Elab.async false
set_option maxRecDepth 100000
namespace TK
open PySem L2
def top (i : Nat) : Stmt := PySem.Challenge.pw_deedstore_k00_trees_written_and_read.main.body.getD i (.Pass ⟨0, 0, 0, 0⟩)
abbrev sPen : Stmt := top 21
abbrev sDraw : Stmt := top 22
abbrev sPick : Stmt := top 23
/-! ### heaps -/
/-- all that was tracked but the object at d is as it was -/
def But (d : Addr) (H H' : Hp) : Prop := ∀ b o, b ≠ d → H b = some o → H' b = some o
theorem But.refl (d : Addr) (H : Hp) : But d H H := fun _ _ _ h => h
theorem But.trans {d : Addr} {H H1 H2 : Hp} (a : But d H H1) (b : But d H1 H2) : But d H H2 := fun c o n h => b c o n (a c o n h)
theorem But.of_same {d : Addr} {H H' : Hp} (a : Same H H') : But d H H' := fun c o _ h => a c o h
theorem But.put {d : Addr} {H : Hp} {o : HO} : But d H (upd H d o) := fun c u n h => by rw [upd_ne n]; exact h
theorem But.new {d p : Addr} {H : Hp} {o : HO} (hp : H p = none) : But d H (upd H p o) := fun c u n h => by rw [upd_ne (ne_of_none h hp)]; exact h
theorem same_new {H : Hp} {p : Addr} (h : H p = none) (o : HO) : Same H (upd H p o) := fun b u q => by rw [upd_ne (ne_of_none q h)]; exact q
/-! ### the pen -/
theorem nca : ¬ (Sum.inr ("cells" : Str) : Key) = Sum.inr ("at" : Str) := by decide +kernel
theorem ncr : ¬ (Sum.inr ("cells" : Str) : Key) = Sum.inr ("rest" : Str) := by decide +kernel
theorem nar : ¬ (Sum.inr ("at" : Str) : Key) = Sum.inr ("rest" : Str) := by decide +kernel
def penKV (c : Addr) (k r : Int) : List (Key × V) := [(Sum.inr ("cells" : Str), .ref c), (Sum.inr ("at" : Str), .int k), (Sum.inr ("rest" : Str), .int r)]
theorem pen_get_cells (c : Addr) (k r : Int) : valV (penKV c k r) (Sum.inr ("cells" : Str)) = some (.ref c) := valV_pos rfl
theorem pen_get_at (c : Addr) (k r : Int) : valV (penKV c k r) (Sum.inr ("at" : Str)) = some (.int k) := (valV_neg nca).trans (valV_pos rfl)
theorem pen_get_rest (c : Addr) (k r : Int) : valV (penKV c k r) (Sum.inr ("rest" : Str)) = some (.int r) := (valV_neg ncr).trans ((valV_neg nar).trans (valV_pos rfl))
theorem pen_put_at (c : Addr) (k r j : Int) : putK (penKV c k r) (Sum.inr ("at" : Str)) (.int j) = penKV c j r := by
  have e : (penKV c k r).any (fun kv => decide (kv.1 = (Sum.inr ("at" : Str) : Key))) = true := by
    rw [valV_any, pen_get_at]; rfl
  unfold putK
  rw [if_pos e]
  simp only [penKV, List.map_cons, List.map_nil, if_neg nca, if_pos, if_neg (Ne.symm nar)]
theorem pen_put_rest (c : Addr) (k r j : Int) : putK (penKV c k r) (Sum.inr ("rest" : Str)) (.int j) = penKV c k j := by
  have e : (penKV c k r).any (fun kv => decide (kv.1 = (Sum.inr ("rest" : Str) : Key))) = true := by
    rw [valV_any, pen_get_rest]; rfl
  unfold putK
  rw [if_pos e]
  simp only [penKV, List.map_cons, List.map_nil, if_neg ncr, if_pos, if_neg nar]
section
variable {H : Hp} {d c : Addr} {k r : Int}
theorem dg_cells (h : H d = some (.dK (penKV c k r))) : DGet H d (.str "cells") (some (.ref c)) := .inl ⟨_, Sum.inr ("cells" : Str), .inl h, rfl, (pen_get_cells c k r).symm⟩
theorem dg_at (h : H d = some (.dK (penKV c k r))) : DGet H d (.str "at") (some (.int k)) := .inl ⟨_, Sum.inr ("at" : Str), .inl h, rfl, (pen_get_at c k r).symm⟩
theorem dg_rest (h : H d = some (.dK (penKV c k r))) : DGet H d (.str "rest") (some (.int r)) := .inl ⟨_, Sum.inr ("rest" : Str), .inl h, rfl, (pen_get_rest c k r).symm⟩
theorem dp_at (h : H d = some (.dK (penKV c k r))) (j : Int) : DPut H d (.str "at") (.int j) (upd H d (.dK (penKV c j r))) :=
  .inl ⟨_, Sum.inr ("at" : Str), h, rfl, (by show 3 < sizeLine; decide), by rw [pen_put_at]⟩
theorem dp_rest (h : H d = some (.dK (penKV c k r))) (j : Int) : DPut H d (.str "rest") (.int j) (upd H d (.dK (penKV c k j))) :=
  .inl ⟨_, Sum.inr ("rest" : Str), h, rfl, (by show 3 < sizeLine; decide), by rw [pen_put_rest]⟩
end
/-- a pen stands at d that has drawn at most n cells -/
def PenAt (H : Hp) (d c : Addr) (n : Nat) : Prop := ∃ (cs : List Int) (k : Nat) (r : Int), H d = some (.dK (penKV c (k : Int) r)) ∧ H c = some (.lst (cs.map V.int)) ∧ k ≤ n ∧ 0 ≤ r
theorem PenAt.mono {H : Hp} {d c : Addr} {n m : Nat} (h : PenAt H d c n) (l : n ≤ m) : PenAt H d c m := by
  obtain ⟨cs, k, r, h1, h2, h3, h4⟩ := h
  exact ⟨cs, k, r, h1, h2, Nat.le_trans h3 l, h4⟩
theorem PenAt.ne {H : Hp} {d c : Addr} {kvs : List (Key × V)} {xs : List V} (h1 : H d = some (.dK kvs)) (h2 : H c = some (.lst xs)) : c ≠ d := ne_of h2 h1 (by intro q; cases q)
theorem PenAt.same {H H' : Hp} {d c : Addr} {n : Nat} (h : PenAt H d c n) (s : Same H H') : PenAt H' d c n := by
  obtain ⟨cs, k, r, h1, h2, h3, h4⟩ := h
  exact ⟨cs, k, r, s _ _ h1, s _ _ h2, h3, h4⟩
theorem PenAt.not_cells {H : Hp} {d c : Addr} {n : Nat} (h : PenAt H d c n) {p : Addr} (hp : H p = none) : c ≠ p := by
  obtain ⟨cs, k, r, h1, h2, _⟩ := h
  exact ne_of_none h2 hp
/-- another list is written -/
theorem PenAt.other {H : Hp} {d c : Addr} {n : Nat} (h : PenAt H d c n) {p : Addr} {o : HO} (h1 : p ≠ d) (h2 : p ≠ c) : PenAt (upd H p o) d c n := by
  obtain ⟨cs, k, r, g1, g2, g3⟩ := h
  exact ⟨cs, k, r, by rw [upd_ne h1.symm]; exact g1, by rw [upd_ne h2.symm]; exact g2, g3⟩
theorem PenAt.not_none {H : Hp} {d c : Addr} {n : Nat} (h : PenAt H d c n) {p : Addr} (hp : H p = none) : d ≠ p := by
  obtain ⟨cs, k, r, h1, _⟩ := h
  exact ne_of_none h1 hp
/-! ### promises -/
def spPen (K : PySem.W.Frag) : Sp := fun vs H Q _ => ∃ (a : Addr) (ns : List Int), vs = [.ref a] ∧ SqL K H a (ns.map V.int) ∧ ∀ (d c : Addr) (H' : Hp), Same H H' → H d = none → PenAt H' d c 0 → Q (.ref d) H'
def spDraw : Sp := fun vs H Q _ => ∃ (d c : Addr) (n : Nat) (m : Int), vs = [.ref d, .int m] ∧ PenAt H d c n ∧ n < 2 ^ 50 ∧ 0 < m ∧ m < 2 ^ 60 ∧
  ∀ (r : Int) (H' : Hp), 0 ≤ r → r < m → But d H H' → PenAt H' d c (n + 1) → Q (.int r) H'
end TK
namespace TK
open PySem L2
theorem bt_len : bootBuiltins "len" = some (.builtin "len") := by decide +kernel
theorem bt_abs : bootBuiltins "abs" = some (.builtin "abs") := by decide +kernel
theorem bt_min : bootBuiltins "min" = some (.builtin "min") := by decide +kernel
theorem bt_repr : bootBuiltins "repr" = some (.builtin "repr") := by decide +kernel
theorem bt_divmod : bootBuiltins "divmod" = some (.builtin "divmod") := by decide +kernel
theorem bt_isinstance : bootBuiltins "isinstance" = some (.builtin "isinstance") := by decide +kernel
theorem bt_int : bootBuiltins "int" = some (.type "int") := by decide +kernel
theorem bt_list : bootBuiltins "list" = some (.type "list") := by decide +kernel
theorem bt_str : bootBuiltins "str" = some (.type "str") := by decide +kernel
theorem bt_tuple : bootBuiltins "tuple" = some (.type "tuple") := by decide +kernel
theorem bt_bool : bootBuiltins "bool" = some (.type "bool") := by decide +kernel
theorem bt_range : bootBuiltins "range" = some (.type "range") := by decide +kernel
theorem bt_reversed : bootBuiltins "reversed" = some (.type "reversed") := by decide +kernel
abbrev sStrg : Stmt := top 16
abbrev sSing : Stmt := top 17
abbrev sWide : Stmt := top 18
abbrev sWrap : Stmt := top 19
abbrev sWrit : Stmt := top 20
abbrev sLaw : Stmt := top 24
abbrev sWT : Stmt := top 10
abbrev sLeaf : Stmt := top 11
abbrev sDig : Stmt := top 12
abbrev sRT : Stmt := top 13
abbrev sPlain : Stmt := top 3
abbrev sRI : Stmt := inClass (top 14) 0
abbrev sRW : Stmt := inClass (top 14) 1
abbrev sRB : Stmt := inClass (top 14) 2
abbrev sRG : Stmt := inClass (top 14) 3
abbrev sRE : Stmt := inClass (top 14) 4
abbrev sRF : Stmt := inClass (top 14) 5
abbrev sRS : Stmt := inClass (top 14) 6
abbrev sRN : Stmt := inClass (top 14) 7
abbrev sRQ : Stmt := inClass (top 14) 8
inductive Nm where
  | Pen | Draw | Pick | Strg | Sing | Wide | Wrap | Writ | WT | Leaf | Dig | RT | Plain | RI | RW | RB | RG | RE | RF | RS | RN | RQ | Reader
/-- a def of the top -/
structure Df (K : PySem.W.Frag) (mg : Str → Option Value) (x : Str) (st : Stmt) (ps : List Str) (f : Addr) (fd : FuncData) : Prop where
  F : Fun K x x st f fd
  m : mg x = some (.ref f)
  b : Binds K fd ps []
/-- a method -/
structure MDf (K : PySem.W.Frag) (C : Addr) (x q : Str) (st : Stmt) (ps : List Str) (f : Addr) (fd : FuncData) : Prop where
  F : Fun K x q st f fd
  M : Meth K C x f
  b : Binds K fd ps []
theorem pe_gint {X : Cx} {x : Str} {i : Int} {pos : Pos} (hg : Gl X x) (h : ∃ t, X.mg x = some (.int i t)) (hd : (x == ("__debug__" : Str)) = false := by decide) : PE X (.Name x pos) (tC (.int i)) := by
  obtain ⟨t, ht⟩ := h
  exact pe_glob hg ht ⟨t, rfl⟩ hd
/-- the __init__ -/
structure Df0 (K : PySem.W.Frag) (x q : Str) (st : Stmt) (ps : List Str) (f : Addr) (fd : FuncData) : Prop where
  F : Fun K x q st f fd
  b : Binds K fd ps []
/-- what the top has written -/
structure Txt (K : PySem.W.Frag) (mg : Str → Option Value) (a : Nm → Addr) (d : Nm → FuncData) : Prop where
  n_len : mg "len" = none
  n_int : mg "int" = none
  n_abs : mg "abs" = none
  n_list : mg "list" = none
  n_str : mg "str" = none
  n_tuple : mg "tuple" = none
  n_bool : mg "bool" = none
  n_range : mg "range" = none
  n_min : mg "min" = none
  n_repr : mg "repr" = none
  n_divmod : mg "divmod" = none
  n_reversed : mg "reversed" = none
  n_isinstance : mg "isinstance" = none
  gMOST_PARTS : ∃ t, mg "MOST_PARTS" = some (.int 2000 t)
  gMOST_DEEP : ∃ t, mg "MOST_DEEP" = some (.int 30 t)
  gMOST_DIGITS : ∃ t, mg "MOST_DIGITS" = some (.int 100 t)
  gPIECE_DIGITS : ∃ t, mg "PIECE_DIGITS" = some (.int 64 t)
  gPIECE : ∃ t, mg "PIECE" = some (.int (10 ^ 64) t)
  Pen : Df K mg "_law_pen" sPen ["_law_script"] (a .Pen) (d .Pen)
  Draw : Df K mg "_law_draw" sDraw ["_law_pen_here", "_law_many"] (a .Draw) (d .Draw)
  Pick : Df K mg "_law_pick" sPick ["_law_pen_here", "_law_items"] (a .Pick) (d .Pick)
  Strg : Df K mg "_law_string" sStrg ["_law_pen_here"] (a .Strg) (d .Strg)
  Sing : Df K mg "_law_single" sSing ["_law_pen_here"] (a .Sing) (d .Sing)
  Wide : Df K mg "_law_wide" sWide ["_law_pen_here", "_law_deep"] (a .Wide) (d .Wide)
  Wrap : Df K mg "_law_wrapped" sWrap ["_law_pen_here", "_law_tree", "_law_many"] (a .Wrap) (d .Wrap)
  Writ : Df K mg "_law_written" sWrit ["_law_tree"] (a .Writ) (d .Writ)
  WT : Df K mg "write_tree" sWT ["tree"] (a .WT) (d .WT)
  Leaf : Df K mg "_leaf_text" sLeaf ["leaf"] (a .Leaf) (d .Leaf)
  Dig : Df K mg "_digits" sDig ["n"] (a .Dig) (d .Dig)
  RT : Df K mg "read_tree" sRT ["text"] (a .RT) (d .RT)
  Plain : Df K mg "is_plain" sPlain ["sign"] (a .Plain) (d .Plain)
  RI : Df0 K "__init__" "Reader.__init__" sRI ["self", "text", "most_parts", "most_deep"] (a .RI) (d .RI)
  RW : MDf K (a .Reader) "whole" "Reader.whole" sRW ["self"] (a .RW) (d .RW)
  RB : MDf K (a .Reader) "begin_part" "Reader.begin_part" sRB ["self"] (a .RB) (d .RB)
  RG : MDf K (a .Reader) "go_on" "Reader.go_on" sRG ["self"] (a .RG) (d .RG)
  RE : MDf K (a .Reader) "end_part" "Reader.end_part" sRE ["self", "part"] (a .RE) (d .RE)
  RF : MDf K (a .Reader) "following" "Reader.following" sRF ["self"] (a .RF) (d .RF)
  RS : MDf K (a .Reader) "spell" "Reader.spell" sRS ["self", "signs"] (a .RS) (d .RS)
  RN : MDf K (a .Reader) "read_number" "Reader.read_number" sRN ["self"] (a .RN) (d .RN)
  RQ : MDf K (a .Reader) "read_string" "Reader.read_string" sRQ ["self"] (a .RQ) (d .RQ)
  cl : Cls K (a .Reader)
  mkR : Mk K (a .Reader) (a .RI)
  mgReader : mg "Reader" = some (.ref (a .Reader))
  aText : NoAttr K (a .Reader) "text"
  aMost_parts : NoAttr K (a .Reader) "most_parts"
  aMost_deep : NoAttr K (a .Reader) "most_deep"
  aAt : NoAttr K (a .Reader) "at"
  aMany : NoAttr K (a .Reader) "many"
  aUnclosed : NoAttr K (a .Reader) "unclosed"
  aResult : NoAttr K (a .Reader) "result"
def cutI (ns : List Int) : List Int := (ns.drop (HT.sIx ns.length 0 none)).take (HT.sIx ns.length ns.length (some 63) - HT.sIx ns.length 0 none)
theorem cutI_map (ns : List Int) : cutV (ns.map V.int) none (some 63) = (cutI ns).map V.int := by
  simp only [cutV, cutI, List.length_map, List.map_drop, List.map_take]
section
variable {P : Program} {w : World} {K : PySem.W.Frag} {mg : Str → Option Value} {base : Heap} {ad : Nm → Addr} {dd : Nm → FuncData}
theorem scPen : FnScope ["_law_script"] ["_law_script"] (defScope sPen) := ⟨rfl, rfl, rfl, by decide +kernel, rfl, by decide +kernel, by decide +kernel⟩
theorem ok_pen (T : Txt K mg ad dd) : FnOk P w K mg base CX0 1 (ad .Pen) (dd .Pen) ["_law_script"] (spPen K) := by
  refine T.Pen.F.ok scPen (fun vs H Q E h => ?_) (fun cdv A outer s H vs Q E hr h => ?_)
  · obtain ⟨a, ns, rfl, _⟩ := h
    rfl
  obtain ⟨a, ns, rfl, hS, k⟩ := h
  refine ⟨_, (pss_one (ps_ret (pe_disp (pps_cons pe_str (pe_callTy call_list_of (by rfl) T.n_list bt_list (pa_cons (pe_slice sl_list (pv 0) po_none (po_some pe_int)) pa_nil)) (pps_cons pe_str pe_int (pps_cons pe_str pe_int pps_nil))) rfl rfl (by simp) (by decide)))), ?_⟩
  intro d hd
  have s1 := same_new hd (.dK [])
  refine ⟨_, rfl, _, rfl, a, _, rfl, s1.seq hS, fun p hp => ?_⟩
  have s2 := same_new hp (.lst (cutV (ns.map V.int) none (some 63)))
  refine ⟨p, _, rfl, .inl (SqL.of upd_same), fun l hl => ?_⟩
  have s3 := same_new hl (.lst (cutV (ns.map V.int) none (some 63)))
  have ndp : d ≠ p := ne_of_none (H := upd H d (.dK [])) upd_same hp
  have hd2 := s2 _ _ (upd_same (H := H) (a := d) (o := .dK []))
  have ndl : d ≠ l := ne_of_none hd2 hl
  refine ⟨s3 _ _ hd2, [(Sum.inr ("cells" : Str), .ref l), (Sum.inr ("at" : Str), .int 0), (Sum.inr ("rest" : Str), .int 0)], rfl, (by show 3 ≤ 15; decide), ?_⟩
  have em : mergeK [] [(Sum.inr ("cells" : Str), V.ref l), (Sum.inr ("at" : Str), .int 0), (Sum.inr ("rest" : Str), .int 0)] = penKV l 0 0 := by
    unfold mergeK
    simp only [List.foldl_cons, List.foldl_nil, putK, List.any_nil, List.any_cons, List.nil_append, Bool.false_eq_true, if_false, Bool.or_false, decide_eq_true_eq, nca, ncr, nar, List.cons_append, Bool.or_eq_true, or_self]
    rfl
  rw [em]
  refine k d l _ (fun b o e => ?_) hd ⟨cutI ns, 0, 0, upd_same, ?_, Nat.le_refl _, Int.le_refl _⟩
  · rw [upd_ne (ne_of_none e hd)]
    exact s3 _ _ (s2 _ _ (s1 _ _ e))
  · rw [upd_ne ndl.symm, upd_same, cutI_map]
end
end TK
namespace TK
open PySem L2
theorem canLay_ints : ∀ l : List Int, PyData.canLayAll0 (l.map PyData.int) = true
  | [] => rfl
  | a :: r => by
    show (true && PyData.canLayAll0 (r.map PyData.int)) = true
    rw [canLay_ints r]; rfl
theorem depth_ints : ∀ l : List Int, PyData.depthAll (l.map PyData.int) = 0
  | [] => rfl
  | a :: r => by
    show max 0 (PyData.depthAll (r.map PyData.int)) = 0
    rw [depth_ints r]; rfl
theorem shaped_ints (l : List Int) : SeqAt.shaped (.list (l.map PyData.int)) = true := by
  have e1 : PyData.canLay0 (.list (l.map PyData.int)) = true := canLay_ints l
  have e2 : PyData.depth (.list (l.map PyData.int)) = 1 := by
    show PyData.depthAll (l.map PyData.int) + 1 = 1
    rw [depth_ints]
  unfold SeqAt.shaped
  rw [e1, e2]; rfl
theorem dp_ints (K : PySem.W.Frag) (H : Hp) : ∀ l : List Int, DpAll K H (l.map V.int) (l.map PyData.int)
  | [] => .nil
  | a :: r => .cons (.int a) (dp_ints K H r)
theorem eqv_nil : ∀ l : List Int, PyData.eqv (.list (l.map PyData.int)) (.list []) = l.isEmpty
  | [] => rfl
  | _ :: _ => rfl
section
variable {P : Program} {w : World} {K : PySem.W.Frag} {mg : Str → Option Value} {base : Heap} {ad : Nm → Addr} {dd : Nm → FuncData}
theorem scDraw : FnScope ["_law_pen_here", "_law_many", "_law_digit", "_law_at", "_law_cell", "_law_mixed"] ["_law_pen_here", "_law_many"] (defScope sDraw) := ⟨rfl, rfl, rfl, by decide +kernel, rfl, by decide +kernel, by decide +kernel⟩
theorem ok_draw (T : Txt K mg ad dd) : FnOk P w K mg base CX0 1 (ad .Draw) (dd .Draw) ["_law_pen_here", "_law_many"] spDraw := by
  refine T.Draw.F.ok scDraw (fun vs H Q E h => ?_) (fun cdv A outer s H vs Q E hr h => ?_)
  · obtain ⟨d, c, n, m, rfl, _⟩ := h
    rfl
  obtain ⟨d, c, n, m, rfl, ⟨cs, a, r, hd, hc, ha, h0⟩, hn, hm0, hm1, k⟩ := h
  have hu := hu_of hr
  have hU := hr.units
  have ncd : c ≠ d := PenAt.ne hd hc
  have hw : ∀ i : Int, CDivW i m := fun i => wide_div (b := 60) hm0 (by omega) (by decide) (by decide)
  refine ⟨_, (pss_cons (ps_if (pt_cmpR op_gt (pe_dget hu (pv 0) pe_str (fun _ _ => rfl)) pe_int (nomark _)) (pss_cons (ps_set (i := 2) scDraw.nd rfl (Or.inl rfl) (pe_op op_mod (pe_callTy call_int1 (by rfl) T.n_int bt_int (pa_cons (pe_dget hu (pv 0) pe_str (fun _ _ => rfl)) pa_nil)) (pv 1)))
      (pss_cons (ps_dput hu (pv 0) pe_str (pe_op op_fdivW (pe_dget hu (pv 0) pe_str (fun _ _ => rfl)) (pv 1)) rfl)
      (pss_one (ps_ret (pv 2))))) pss_nil)
      (pss_cons (ps_set (i := 3) scDraw.nd rfl (Or.inl rfl) (pe_dget hu (pv 0) pe_str (fun _ _ => rfl)))
      (pss_cons (ps_dput hu (pv 0) pe_str (pe_op op_add (pv 3) pe_int) rfl)
      (pss_cons (ps_set (i := 4) scDraw.nd rfl (Or.inl rfl) (pe_op op_add (pe_op op_mul pe_int (pv 3)) pe_int))
      (Evl.pss_cut (ps_if (pt_cmpR (op_neD hU) (pe_dget hu (pv 0) pe_str (fun _ _ => rfl)) (pe_lst pa_nil) (nomark _)) (pss_one (ps_set (i := 4) scDraw.nd rfl (Or.inl rfl) (pe_ix ix_list (pe_dget hu (pv 0) pe_str (fun _ _ => rfl)) (pe_op op_mod (pe_callTy call_int1 (by rfl) T.n_int bt_int (pa_cons (pv 3) pa_nil)) (pe_callB call_len_seq (by rfl) T.n_len bt_len (pa_cons (pe_dget hu (pv 0) pe_str (fun _ _ => rfl)) pa_nil))) (fun _ _ => rfl)))) pss_nil)
      (Evl.pss_cut (ps_if (PW.pt (pw_and (pt_cmpR op_lt (pv 3) (pe_callB call_len_seq (by rfl) T.n_len bt_len (pa_cons (pe_dget hu (pv 0) pe_str (fun _ _ => rfl)) pa_nil)) (nomark _)) (pw_and1 (pt_cmpR op_ge (pe_callB call_abs (by rfl) T.n_abs bt_abs (pa_cons (pv 4) pa_nil)) (pe_op op_pow pe_int pe_int) (nomark _))))) (pss_cons (ps_dput hu (pv 0) pe_str (pe_op op_fdivW (pe_op op_sub (pe_callB call_abs (by rfl) T.n_abs bt_abs (pa_cons (pv 4) pa_nil)) (pe_op op_pow pe_int pe_int)) (pv 1)) rfl)
      (pss_one (ps_ret (pe_op op_mod (pe_op op_sub (pe_callB call_abs (by rfl) T.n_abs bt_abs (pa_cons (pv 4) pa_nil)) (pe_op op_pow pe_int pe_int)) (pv 1))))) pss_nil)
      (pss_cons (ps_set (i := 5) scDraw.nd rfl (Or.inl rfl) (pe_op op_add (pe_op op_mul (pe_op op_mod (pe_callTy call_int1 (by rfl) T.n_int bt_int (pa_cons (pv 4) pa_nil)) pe_int) pe_int) (pe_op op_mul (pe_op op_mul pe_int (pv 3)) (pv 3))))
      (pss_cons (ps_set (i := 5) scDraw.nd rfl (Or.inl rfl) (pe_op op_mod (pe_callTy call_int1 (by rfl) T.n_int bt_int (pa_cons (pe_op op_add (pe_op op_add (pv 5) (pe_op op_mul pe_int (pv 3))) pe_int) pa_nil)) pe_int))
      (pss_cons (ps_set (i := 5) scDraw.nd rfl (Or.inl rfl) (pe_op op_mod (pe_callTy call_int1 (by rfl) T.n_int bt_int (pa_cons (pe_op op_add (pe_op op_add (pe_op op_add (pe_op op_mul (pv 5) (pv 5)) (pe_op op_mul pe_int (pv 5))) (pe_op op_mul pe_int (pv 3))) pe_int) pa_nil)) pe_int))
      (pss_one (ps_ret (pe_op op_mod (pe_callTy call_int1 (by rfl) T.n_int bt_int (pa_cons (pe_op op_fdivW (pe_op op_mod (pe_callTy call_int1 (by rfl) T.n_int bt_int (pa_cons (pe_op op_mul (pv 5) (pe_op op_add (pv 5) pe_int)) pa_nil)) pe_int) pe_int) pa_nil)) (pv 1))))))))))))), ?_⟩
  refine ⟨_, rfl, d, _, rfl, dg_rest hd, _, _, rfl, rfl, _, rfl, ?_⟩
  refine ite2 (fun _ => ?_) (fun _ => ?_)
  · refine ⟨_, rfl, d, _, rfl, dg_rest hd, .inl ⟨_, rfl, _, rfl, _, _, rfl, rfl, hm0, ?_⟩⟩
    refine ⟨_, rfl, d, _, rfl, dg_rest hd, _, rfl, _, _, rfl, rfl, hw _, _, rfl, d, _, rfl, dp_rest hd _, ?_⟩
    refine ⟨_, rfl, ?_⟩
    exact k _ _ (Int.emod_nonneg _ (by omega)) (Int.emod_lt_of_pos _ hm0) But.put ⟨cs, a, r / m, upd_same, by rw [upd_ne ncd]; exact hc, Nat.le_succ_of_le ha, Int.ediv_nonneg h0 (by omega)⟩
  refine ⟨_, rfl, d, _, rfl, dg_at hd, ?_⟩
  refine ⟨_, rfl, _, _, rfl, rfl, _, rfl, d, _, rfl, dp_at hd _, ?_⟩
  refine ⟨_, rfl, _, _, rfl, rfl, .inl ⟨by omega, by omega⟩, _, _, rfl, rfl, ?_⟩
  have hd1 : ∀ j : Int, (upd H d (.dK (penKV c j r))) d = some (.dK (penKV c j r)) := fun j => upd_same
  have hc1 : ∀ j : Int, (upd H d (.dK (penKV c j r))) c = some (.lst (cs.map V.int)) := fun j => by rw [upd_ne ncd]; exact hc
  refine ⟨fun σ' H' => ∃ cell : Int, σ' = [some (.ref d), some (.int m), none, some (.int a), some (.int cell), none] ∧ But d H H' ∧ H' d = some (.dK (penKV c ((a + 1 : Nat) : Int) r)) ∧ H' c = some (.lst (cs.map V.int)), ?_, ?_⟩
  · refine ⟨_, rfl, d, _, rfl, dg_cells (hd1 _), Nat.zero_le _, fun p hp => ?_⟩
    have s1 := same_new hp (.lst [])
    have hdp := s1 _ _ (hd1 ((a : Int) + 1))
    have hcp := s1 _ _ (hc1 ((a : Int) + 1))
    have bt : But d H (upd (upd H d (.dK (penKV c ((a : Int) + 1) r))) p (.lst [])) := But.trans But.put (But.of_same s1)
    refine ⟨.list (cs.map PyData.int), .list [], .lst (SqL.of hcp) (dp_ints _ _ _), .lst (SqL.of upd_same) .nil, shaped_ints _, rfl, _, rfl, ?_⟩
    rw [eqv_nil]
    refine ite2 (fun e => ?_) (fun _ => ⟨_, rfl, bt, hdp, hcp⟩)
    have hne : cs ≠ [] := by
      intro q
      rw [q] at e
      cases e
    have hl : 0 < cs.length := (by cases cs with | nil => exact absurd rfl hne | cons _ _ => exact Nat.succ_pos _)
    have hlV : (cs.map V.int).length = cs.length := List.length_map _
    have hpos : (0 : Int) < ((cs.map V.int).length : Nat) := by rw [hlV]; omega
    have h1 := Int.emod_nonneg (a : Int) (show ((cs.map V.int).length : Int) ≠ 0 by omega)
    have h2 := Int.emod_lt_of_pos (a : Int) hpos
    have hj : ((a : Int) % ((cs.map V.int).length : Int)).toNat < cs.length := by rw [hlV] at h1 h2 ⊢; omega
    refine ⟨_, rfl, d, _, rfl, dg_cells hdp, _, rfl, .inl ⟨_, rfl, _, rfl, d, _, rfl, dg_cells hdp, c, _, rfl, .inl (SqL.of hcp), _, _, rfl, rfl, hpos, c, _, _, _, rfl, rfl, SqL.of hcp, at_of (j := ((a : Int) % ((cs.map V.int).length : Int)).toNat) (by omega) (by rw [List.getElem?_map, List.getElem?_eq_getElem hj]; rfl), ?_⟩⟩
    exact ⟨_, rfl, bt, hdp, hcp⟩
  · rintro σ' H' ⟨cell, rfl, bt, hdp, hcp⟩
    refine ⟨fun σ2 H2 => σ2 = [some (.ref d), some (.int m), none, some (.int a), some (.int cell), none] ∧ H2 = H', ?_, ?_⟩
    · refine ⟨_, rfl, _, rfl, d, _, rfl, dg_cells hdp, c, _, rfl, .inl (SqL.of hcp), _, _, rfl, rfl, _, rfl, ?_⟩
      refine ite2 (fun _ => ?_) (fun _ => iteF ⟨rfl, rfl⟩)
      refine ⟨_, rfl, _, rfl, _, _, rfl, rfl, ⟨by decide, by decide, by decide⟩, _, _, rfl, rfl, _, rfl, ?_⟩
      refine ite2 (fun hg => ?_) (fun _ => ⟨rfl, rfl⟩)
      have hg' := of_decide_eq_true hg
      refine ⟨_, rfl, _, rfl, _, _, rfl, rfl, ⟨by decide, by decide, by decide⟩, _, _, rfl, rfl, _, rfl, _, _, rfl, rfl, hw _, _, rfl, d, _, rfl, dp_rest hdp _, ?_⟩
      refine ⟨_, rfl, _, rfl, _, _, rfl, rfl, ⟨by decide, by decide, by decide⟩, _, _, rfl, rfl, _, rfl, _, _, rfl, rfl, hm0, ?_⟩
      exact k _ _ (Int.emod_nonneg _ (by omega)) (Int.emod_lt_of_pos _ hm0) (But.trans bt But.put) ⟨cs, a + 1, _, upd_same, by rw [upd_ne ncd]; exact hcp, Nat.succ_le_succ ha, Int.ediv_nonneg (Int.sub_nonneg_of_le hg') (by omega)⟩
    · rintro σ2 H2 ⟨rfl, rfl⟩
      refine ⟨_, rfl, .inl ⟨_, rfl, _, _, rfl, rfl, (by omega), _, _, rfl, rfl, .inl ⟨by omega, by omega⟩, _, rfl, _, _, rfl, rfl, .inl ⟨by omega, by omega⟩, _, rfl, _, _, rfl, rfl, .inr ⟨by omega, by omega⟩, _, _, rfl, rfl, ?_⟩⟩
      refine ⟨_, rfl, _, rfl, _, _, rfl, rfl, .inl ⟨by omega, by omega⟩, _, _, rfl, rfl, _, _, rfl, rfl, .inl ⟨_, rfl, _, _, rfl, rfl, (by omega), ?_⟩⟩
      refine ⟨_, rfl, _, rfl, _, _, rfl, rfl, .inl ⟨by omega, by omega⟩, _, rfl, _, _, rfl, rfl, .inl ⟨by omega, by omega⟩, _, _, rfl, rfl, _, rfl, _, _, rfl, rfl, .inl ⟨by omega, by omega⟩, _, _, rfl, rfl, _, _, rfl, rfl, .inl ⟨_, rfl, _, _, rfl, rfl, (by omega), ?_⟩⟩
      refine ⟨_, rfl, _, rfl, _, _, rfl, rfl, _, _, rfl, rfl, .inl ⟨by omega, by omega⟩, .inl ⟨_, rfl, _, _, rfl, rfl, (by omega), _, _, rfl, rfl, wide_div (b := 60) (by decide) (by decide) (by decide) (by decide), .inl ⟨_, rfl, _, rfl, _, _, rfl, rfl, hm0, ?_⟩⟩⟩
      exact k _ _ (Int.emod_nonneg _ (by omega)) (Int.emod_lt_of_pos _ hm0) bt ⟨cs, a + 1, r, hdp, hcp, Nat.succ_le_succ ha, h0⟩
end
end TK
namespace TK
open PySem L2
abbrev S := SX.S
theorem S_len (l : List Nat) : (S l).length = l.length := by
  show l.toArray.size = l.length
  exact List.size_toArray
theorem S_app (a b : List Nat) : S a ++ S b = S (a ++ b) := by
  show (⟨a.toArray ++ b.toArray⟩ : Str) = ⟨(a ++ b).toArray⟩
  rw [List.append_toArray]
/-! ### trees -/
/-- a sign that may stand in a string of a tree -/
def plainC (c : Nat) : Bool := (decide (32 ≤ c) && decide (c ≤ 36)) || (decide (38 ≤ c) && decide (c ≤ 126))
mutual
/-- a tree with short leaves -/
def gd : PyData → Bool
  | .none => true
  | .bool _ => true
  | .int i => decide (i.natAbs < 10 ^ 100)
  | .str x => x.cps.toList.all plainC && decide (x.length ≤ 12)
  | .tuple ts => gds ts
  | .list _ => false
  | .dict _ => false
def gds : List PyData → Bool
  | [] => true
  | t :: ts => gd t && gds ts
end
mutual
/-- how deep -/
def dp : PyData → Nat
  | .tuple ts => dps ts + 1
  | .none => 1
  | .bool _ => 1
  | .int _ => 1
  | .str _ => 1
  | .list _ => 1
  | .dict _ => 1
def dps : List PyData → Nat
  | [] => 0
  | t :: ts => max (dp t) (dps ts)
end
mutual
/-- how many parts -/
def pts : PyData → Nat
  | .tuple ts => ptss ts + 1
  | .none => 1
  | .bool _ => 1
  | .int _ => 1
  | .str _ => 1
  | .list _ => 1
  | .dict _ => 1
def ptss : List PyData → Nat
  | [] => 0
  | t :: ts => pts t + ptss ts
end
theorem pts_pos : ∀ t : PyData, 0 < pts t
  | .tuple _ => Nat.succ_pos _
  | .none => Nat.one_pos
  | .bool _ => Nat.one_pos
  | .int _ => Nat.one_pos
  | .str _ => Nat.one_pos
  | .list _ => Nat.one_pos
  | .dict _ => Nat.one_pos
mutual
/-- the tree t stands at v: tuples, tracked -/
inductive Tr (H : Hp) : V → PyData → Prop
  | non : Tr H .non .none
  | bl (b : Bool) : Tr H (.bl b) (.bool b)
  | int (i : Int) : Tr H (.int i) (.int i)
  | str (x : Str) : Tr H (.str x) (.str x)
  | tup {a : Addr} {xs : List V} {ts : List PyData} : H a = some (.tup xs) → TrAll H xs ts → Tr H (.ref a) (.tuple ts)
inductive TrAll (H : Hp) : List V → List PyData → Prop
  | nil : TrAll H [] []
  | cons {v : V} {vs : List V} {t : PyData} {ts : List PyData} : Tr H v t → TrAll H vs ts → TrAll H (v :: vs) (t :: ts)
end
/-- the tuples stay -/
def Tups (H H' : Hp) : Prop := ∀ a xs, H a = some (.tup xs) → H' a = some (.tup xs)
theorem Tups.of_same {H H' : Hp} (s : Same H H') : Tups H H' := fun a _ h => s a _ h
theorem Tups.trans {H H1 H2 : Hp} (a : Tups H H1) (b : Tups H1 H2) : Tups H H2 := fun c xs h => b c xs (a c xs h)
theorem Tups.of_but {H H' : Hp} {d c : Addr} {n : Nat} (s : But d H H') (p : PenAt H d c n) : Tups H H' := fun a xs h => by
  obtain ⟨cs, k, r, h1, _⟩ := p
  exact s a _ (ne_of h h1 (by intro q; cases q)) h
mutual
theorem Tr.keep {H H' : Hp} (s : Tups H H') : ∀ (t : PyData) (v : V), Tr H v t → Tr H' v t
  | .none, _, h => by cases h; exact .non
  | .bool b, _, h => by cases h; exact .bl b
  | .int i, _, h => by cases h; exact .int i
  | .str x, _, h => by cases h; exact .str x
  | .tuple ts, _, h => by
    cases h with
    | tup h1 h2 => exact .tup (s _ _ h1) (TrAll.keep s ts _ h2)
  | .list _, _, h => by cases h
  | .dict _, _, h => by cases h
theorem TrAll.keep {H H' : Hp} (s : Tups H H') : ∀ (ts : List PyData) (vs : List V), TrAll H vs ts → TrAll H' vs ts
  | [], _, h => by cases h; exact .nil
  | t :: ts, _, h => by
    cases h with
    | cons h1 h2 => exact .cons (Tr.keep s t _ h1) (TrAll.keep s ts _ h2)
end
mutual
theorem Tr.dp_ {K : PySem.W.Frag} {H : Hp} : ∀ (t : PyData) (v : V), Tr H v t → Dp K H v t
  | .none, _, h => by cases h; exact .non
  | .bool b, _, h => by cases h; exact .bl b
  | .int i, _, h => by cases h; exact .int i
  | .str x, _, h => by cases h; exact .str x
  | .tuple ts, _, h => by
    cases h with
    | tup h1 h2 => exact .tup (SqT.of h1) (TrAll.dp_ ts _ h2)
  | .list _, _, h => by cases h
  | .dict _, _, h => by cases h
theorem TrAll.dp_ {K : PySem.W.Frag} {H : Hp} : ∀ (ts : List PyData) (vs : List V), TrAll H vs ts → DpAll K H vs ts
  | [], _, h => by cases h; exact .nil
  | t :: ts, _, h => by
    cases h with
    | cons h1 h2 => exact .cons (Tr.dp_ t _ h1) (TrAll.dp_ ts _ h2)
end
theorem TrAll.length {H : Hp} : ∀ {ts : List PyData} {vs : List V}, TrAll H vs ts → vs.length = ts.length
  | [], _, h => by cases h; rfl
  | t :: ts, _, h => by
    cases h with
    | cons h1 h2 => rw [List.length_cons, List.length_cons, TrAll.length h2]
theorem TrAll.snoc {H : Hp} {v : V} {t : PyData} (h : Tr H v t) : ∀ {ts : List PyData} {vs : List V}, TrAll H vs ts → TrAll H (vs ++ [v]) (ts ++ [t])
  | [], _, q => by cases q; exact .cons h .nil
  | u :: ts, _, q => by
    cases q with
    | cons h1 h2 => exact .cons h1 (TrAll.snoc h h2)
theorem gds_snoc : ∀ (ts : List PyData) (t : PyData), gds (ts ++ [t]) = (gds ts && gd t)
  | [], t => by
    show (gd t && true) = (true && gd t)
    rw [Bool.and_true, Bool.true_and]
  | u :: ts, t => by
    show (gd u && gds (ts ++ [t])) = (gd u && gds ts && gd t)
    rw [gds_snoc ts t, Bool.and_assoc]
theorem dps_snoc : ∀ (ts : List PyData) (t : PyData), dps (ts ++ [t]) = max (dps ts) (dp t)
  | [], t => by
    show max (dp t) 0 = max 0 (dp t)
    omega
  | u :: ts, t => by
    show max (dp u) (dps (ts ++ [t])) = max (max (dp u) (dps ts)) (dp t)
    rw [dps_snoc ts t]; omega
theorem ptss_snoc : ∀ (ts : List PyData) (t : PyData), ptss (ts ++ [t]) = ptss ts + pts t
  | [], t => by
    show pts t + 0 = 0 + pts t
    omega
  | u :: ts, t => by
    show pts u + ptss (ts ++ [t]) = pts u + ptss ts + pts t
    rw [ptss_snoc ts t]; omega
end TK
namespace TK
open PySem L2
theorem at_ofN {α : Type} {xs : List α} {z : Int} {j : Nat} {v : α} (e : z = (j : Int)) (h : xs[j]? = some v) : atI xs z = some v := by
  subst e
  exact atI_nat h
def spPick : Sp := fun vs H Q _ => ∃ (d c : Addr) (n : Nat) (x : V), vs = [.ref d, x] ∧ PenAt H d c n ∧ n < 2 ^ 50 ∧
  ((∃ (l : Addr) (xs : List V), x = .ref l ∧ H l = some (.lst xs) ∧ 0 < xs.length ∧ xs.length < 1000 ∧ ∀ (y : V) (H' : Hp), y ∈ xs → But d H H' → PenAt H' d c (n + 1) → Q y H') ∨
   (∃ z : List Nat, x = .str (S z) ∧ 0 < z.length ∧ z.length < 1000 ∧ ∀ (e : Nat) (H' : Hp), e ∈ z → But d H H' → PenAt H' d c (n + 1) → Q (.str (S [e])) H'))
section
variable {P : Program} {w : World} {K : PySem.W.Frag} {mg : Str → Option Value} {base : Heap} {ad : Nm → Addr} {dd : Nm → FuncData}
theorem scPick : FnScope ["_law_pen_here", "_law_items"] ["_law_pen_here", "_law_items"] (defScope sPick) := ⟨rfl, rfl, rfl, by decide +kernel, rfl, by decide +kernel, by decide +kernel⟩
theorem ok_pick (T : Txt K mg ad dd) : FnOk P w K mg base CX0 2 (ad .Pick) (dd .Pick) ["_law_pen_here", "_law_items"] spPick := by
  have GDraw := ok_draw (P := P) (w := w) (base := base) T
  refine T.Pick.F.ok scPick (fun vs H Q E h => ?_) (fun cdv A outer s H vs Q E hr h => ?_)
  · obtain ⟨d, c, n, x, rfl, _⟩ := h
    rfl
  obtain ⟨d, c, n, x, rfl, hp, hn, h⟩ := h
  refine ⟨_, (pss_one (ps_ret (pe_ix ix_seq (pv 1) (pe_call GDraw (hr.mono (by first | decide | omega)) rfl T.Draw.m T.Draw.F.kp T.Draw.b .nil pass0 (pa_cons (pv 0) (pa_cons (pe_callB call_len (by rfl) T.n_len bt_len (pa_cons (pv 1) pa_nil)) pa_nil))) (fun _ _ => rfl)))), ?_⟩
  rcases h with ⟨l, xs, rfl, hl, h0, h1, k⟩ | ⟨z, rfl, h0, h1, k⟩
  · refine ⟨_, rfl, _, rfl, _, rfl, _, _, rfl, .inl ⟨xs, SqL.of hl, rfl⟩, d, c, n, _, rfl, hp, hn, by omega, by omega, fun r H' r0 r1 bt hp' => ?_⟩
    have hj : r.toNat < xs.length := by omega
    obtain ⟨cs, a, b, hd, _⟩ := id hp
    have nl : l ≠ d := PenAt.ne hd hl
    exact .inl ⟨l, xs, r, xs[r.toNat], rfl, rfl, SqL.of (bt _ _ nl hl), at_of (j := r.toNat) (by omega) (List.getElem?_eq_getElem hj), k _ _ (List.getElem_mem hj) bt hp'⟩
  · have hz : sizeLine = 16777216 := sizeLine_eq
    refine ⟨_, rfl, _, rfl, _, rfl, _, _, rfl, ⟨by rw [S_len]; omega, rfl⟩, d, c, n, _, rfl, hp, hn, by rw [S_len]; omega, by rw [S_len]; omega, fun r H' r0 r1 bt hp' => ?_⟩
    rw [S_len] at r1
    have hj : r.toNat < z.length := by omega
    exact .inr (.inr ⟨S z, r, z[r.toNat], rfl, rfl, by rw [S_len]; omega, at_ofN (j := r.toNat) (show r = ((r.toNat : Nat) : Int) by omega) (List.getElem?_eq_getElem hj), k _ _ (List.getElem_mem hj) bt hp'⟩)
theorem join_one : ∀ zs : List Nat, TL.joinL [] (zs.map fun c => [c]) = zs
  | [] => rfl
  | [_] => rfl
  | a :: b :: r => by
    show [a] ++ [] ++ TL.joinL [] ((b :: r).map fun c => [c]) = _
    rw [join_one (b :: r)]
    rfl
theorem e0 : Str.ofString "" = S [] := by decide +kernel
theorem join_signs (zs : List Nat) : Txt.join (Str.ofString "") (zs.map fun c => S [c]) = S zs := by
  have e : (zs.map fun c => S [c]) = (zs.map fun c => [c]).map S := by rw [List.map_map]; rfl
  rw [e0, e, SX.join_S, join_one]
theorem sum_one : ∀ zs : List Nat, ((zs.map fun c => S [c]).map (·.length)).sum = zs.length
  | [] => rfl
  | a :: r => by
    show 1 + ((r.map fun c => S [c]).map (·.length)).sum = _
    rw [sum_one r, List.length_cons]; omega
/-- the written texts of signs -/
def SgL : List V := [.str "\"\\", .str "ab \"\\", .str "-()0 ", .str " !#$&'()*+,-./09:;<=>?@AZ[]^_`az{|}~\"\\"]
theorem sgL_ok : ∀ y ∈ SgL, ∃ z : List Nat, y = .str (S z) ∧ z.all plainC = true ∧ 0 < z.length ∧ z.length < 1000 := by
  intro y hy
  have h : y = .str "\"\\" ∨ y = .str "ab \"\\" ∨ y = .str "-()0 " ∨ y = .str " !#$&'()*+,-./09:;<=>?@AZ[]^_`az{|}~\"\\" := by simpa [SgL] using hy
  rcases h with rfl | rfl | rfl | rfl <;> exact ⟨_, congrArg V.str (SX.S_tl _).symm, by decide +kernel, by decide +kernel, by decide +kernel⟩
/-- a text of at most 12 plain signs -/
def spStrg : Sp := fun vs H Q _ => ∃ (d c : Addr) (n : Nat), vs = [.ref d] ∧ PenAt H d c n ∧ n + 14 < 2 ^ 50 ∧ ∀ (l : List Nat) (H' : Hp), l.all plainC = true → l.length ≤ 12 → But d H H' → PenAt H' d c (n + 14) → Q (.str (S l)) H'
theorem scStrg : FnScope ["_law_pen_here", "_law_signs", "_law_k"] ["_law_pen_here"] (defScope sStrg) := ⟨rfl, rfl, rfl, by decide +kernel, rfl, by decide +kernel, by decide +kernel⟩
theorem ok_strg (T : Txt K mg ad dd) : FnOk P w K mg base CX0 3 (ad .Strg) (dd .Strg) ["_law_pen_here"] spStrg := by
  have GPick := ok_pick (P := P) (w := w) (base := base) T
  refine T.Strg.F.ok scStrg (fun vs H Q E h => ?_) (fun cdv A outer s H vs Q E hr h => ?_)
  · obtain ⟨d, c, n, rfl, _⟩ := h
    rfl
  obtain ⟨d, c, n, rfl, hp, hn, k⟩ := h
  refine ⟨_, (pss_cons (ps_set (i := 1) scStrg.nd rfl (Or.inr rfl) (pe_call GPick (hr.mono (by first | decide | omega)) rfl T.Pick.m T.Pick.F.kp T.Pick.b .nil pass0 (pa_cons (pv 0) (pa_cons (pe_lst (pa_cons pe_str (pa_cons pe_str (pa_cons pe_str (pa_cons pe_str pa_nil))))) pa_nil))))
      (pss_one (ps_ret (pe_join pe_str (pe_lc (own := [("_law_k", 2)]) (g := gName 2) (tt := tYes) rfl scStrg.nd (pi_range1 rfl T.n_range (pa_cons (pe_call GPick (hr.mono (by first | decide | omega)) rfl T.Pick.m T.Pick.F.kp T.Pick.b .nil pass0 (pa_cons (pv 0) (pa_cons (pe_lst (pa_cons pe_int (pa_cons pe_int (pa_cons pe_int (pa_cons pe_int (pa_cons pe_int pa_nil)))))) pa_nil))) pa_nil)) (blkOk_by (N := ["_law_pen_here", "_law_signs", "_law_k"]) (sc := defScope sStrg) (by decide +kernel)) (fun _ _ _ _ _ => pg_name (i := 2) scStrg.nd rfl (Or.inl rfl)) (fun _ _ _ _ _ => pts_nil) (fun _ _ _ _ _ => (pe_call GPick (hr.mono (by first | decide | omega)) rfl T.Pick.m T.Pick.F.kp T.Pick.b .nil pass0 (pa_cons (pv 0) (pa_cons (pv 1) pa_nil))))))))), ?_⟩
  refine ⟨_, rfl, (by show 4 ≤ sizeLine; decide), fun p hp0 => ?_⟩
  have s0 := same_new hp0 (.lst SgL)
  refine ⟨d, c, n, _, rfl, hp.same s0, by omega, .inl ⟨p, SgL, rfl, upd_same, (by show 0 < 4; decide), (by show 4 < 1000; decide), fun y H1 hy b1 p1 => ?_⟩⟩
  obtain ⟨z, rfl, zp, z0, z1⟩ := sgL_ok y hy
  have B1 : But d H H1 := But.trans (But.of_same s0) b1
  refine ⟨⟨_, rfl⟩, _, rfl, (by show 5 ≤ sizeLine; decide), fun q hq => ?_⟩
  have s2 := same_new hq (.lst [V.int 0, .int 1, .int 2, .int 5, .int 12])
  refine ⟨d, c, n + 1, _, rfl, p1.same s2, by omega, .inl ⟨q, [V.int 0, .int 1, .int 2, .int 5, .int 12], rfl, upd_same, (by show 0 < 5; decide), (by show 5 < 1000; decide), fun y2 H2 hy2 b2 p2 => ?_⟩⟩
  have B2 : But d H H2 := But.trans B1 (But.trans (But.of_same s2) b2)
  obtain ⟨j, rfl, j0, j1⟩ : ∃ j : Int, y2 = .int j ∧ 0 ≤ j ∧ j ≤ 12 := by
    have h : y2 = .int 0 ∨ y2 = .int 1 ∨ y2 = .int 2 ∨ y2 = .int 5 ∨ y2 = .int 12 := by simpa using hy2
    rcases h with rfl | rfl | rfl | rfl | rfl <;> exact ⟨_, rfl, by omega, by omega⟩
  refine ⟨j, rfl, by omega, by omega, fun D hD => ?_⟩
  have hDd : d ≠ D := p2.not_none hD
  refine lc_range (n := j.toNat) (fun i H' => ∃ zs : List Nat, H' D = some (.lst (zs.map fun c => .str (S [c]))) ∧ zs.length = i ∧ zs.all plainC = true ∧ But d H H' ∧ PenAt H' d c (n + 2 + i)) ⟨[], upd_same, rfl, rfl, But.trans B2 (But.new hD), p2.same (same_new hD _)⟩ ?_ ?_
  · rintro i H' hi ⟨zs, h1, h2, h3, h4, h5⟩
    refine ⟨rfl, _, rfl, _, rfl, d, c, n + 2 + i, _, rfl, h5, by omega, .inr ⟨z, rfl, z0, z1, fun e H'' hc b3 p3 => ?_⟩⟩
    have nD : D ≠ d := hDd.symm
    have hD2 := b3 _ _ nD h1
    refine ⟨_, hD2, by rw [List.length_map, h2, sizeLine_eq]; omega, zs ++ [e], ?_, by rw [List.length_append, h2]; rfl, ?_, ?_, ?_⟩
    · rw [upd_same, List.map_append]; rfl
    · rw [List.all_append, h3]
      show (plainC e && true) = true
      rw [List.all_eq_true.mp zp e hc]; rfl
    · intro b o hb e1
      have e2 := b3 _ _ hb (h4 _ _ hb e1)
      have nb : b ≠ D := fun q => by
        rw [q] at e1
        exact absurd (B2 D o nD e1) (by rw [hD]; exact fun q => nomatch q)
      rw [upd_ne nb]; exact e2
    · exact p3.other nD (p2.not_cells hD).symm
  · rintro H' ⟨zs, h1, h2, h3, h4, h5⟩
    refine ⟨_, D, zs.map fun c => S [c], rfl, rfl, .inl (SqL.of (by rw [List.map_map]; exact h1)), ?_, ?_⟩
    · rw [sum_one, List.length_map, h2]
      show j.toNat + j.toNat * 0 ≤ 16777216
      omega
    · rw [join_signs]
      exact k zs H' h3 (by omega) h4 (h5.mono (by omega))
end
end TK
namespace TK
open PySem L2
/-- a short leaf, or () -/
def LeafV (H : Hp) (y : V) : Prop := ∃ t : PyData, Tr H y t ∧ gd t = true ∧ dp t ≤ 1 ∧ pts t ≤ 1
theorem LeafV.keep {H H' : Hp} {y : V} (s : Tups H H') (h : LeafV H y) : LeafV H' y := by
  obtain ⟨t, h1, h2⟩ := h
  exact ⟨t, Tr.keep s t y h1, h2⟩
theorem leaf_non (H : Hp) : LeafV H .non := ⟨.none, .non, rfl, Nat.le_refl _, Nat.le_refl _⟩
theorem leaf_bl (H : Hp) (b : Bool) : LeafV H (.bl b) := ⟨.bool b, .bl b, rfl, Nat.le_refl _, Nat.le_refl _⟩
theorem leaf_int (H : Hp) (i : Int) (h : i.natAbs < 10 ^ 100) : LeafV H (.int i) := ⟨.int i, .int i, decide_eq_true h, Nat.le_refl _, Nat.le_refl _⟩
theorem leaf_str (H : Hp) (x : Str) (h1 : x.cps.toList.all plainC = true) (h2 : x.length ≤ 12) : LeafV H (.str x) := by
  refine ⟨.str x, .str x, ?_, Nat.le_refl _, Nat.le_refl _⟩
  show (x.cps.toList.all plainC && decide (x.length ≤ 12)) = true
  rw [h1, decide_eq_true h2]; rfl
theorem leaf_S (H : Hp) (l : List Nat) (h1 : l.all plainC = true) (h2 : l.length ≤ 12) : LeafV H (.str (S l)) := leaf_str H (S l) h1 (by rw [S_len]; exact h2)
theorem leaf_nil (H : Hp) (u : Addr) (h : H u = some (.tup [])) : LeafV H (.ref u) := ⟨.tuple [], .tup h .nil, rfl, Nat.le_refl _, Nat.le_refl _⟩
/-- the written items -/
def someL (z : Int) : List V := [.non, .bl true, .bl false, .int 0, .int 1, .int (-1), .int (10 ^ 50 * 10 ^ 49), .int (1 - 10 ^ 50 * 10 ^ 50), .int z, .int (0 - z), .str "", .str "yes", .str "no", .str "-"]
theorem some_ok (H : Hp) (z : Int) (h0 : 0 ≤ z) (h1 : z < 10 ^ 30) : ∀ y ∈ someL z, LeafV H y := by
  intro y hy
  have hz : z.natAbs < 10 ^ 100 := by
    have e : (10 : Nat) ^ 30 < 10 ^ 100 := by decide
    have e2 : z.natAbs < 10 ^ 30 := by omega
    omega
  have hz2 : (0 - z).natAbs < 10 ^ 100 := by omega
  simp only [someL, List.mem_cons, List.not_mem_nil, or_false] at hy
  rcases hy with rfl | rfl | rfl | rfl | rfl | rfl | rfl | rfl | rfl | rfl | rfl | rfl | rfl | rfl
  · exact leaf_non H
  · exact leaf_bl H _
  · exact leaf_bl H _
  · exact leaf_int H _ (by decide)
  · exact leaf_int H _ (by decide)
  · exact leaf_int H _ (by decide)
  · exact leaf_int H _ (by decide)
  · exact leaf_int H _ (by decide)
  · exact leaf_int H _ hz
  · exact leaf_int H _ hz2
  · exact leaf_str H _ (by decide +kernel) (by decide +kernel)
  · exact leaf_str H _ (by decide +kernel) (by decide +kernel)
  · exact leaf_str H _ (by decide +kernel) (by decide +kernel)
  · exact leaf_str H _ (by decide +kernel) (by decide +kernel)
def spSing : Sp := fun vs H Q _ => ∃ (d c : Addr) (n : Nat), vs = [.ref d] ∧ PenAt H d c n ∧ n + 60 < 2 ^ 50 ∧ ∀ (x : V) (H' : Hp), LeafV H' x → But d H H' → PenAt H' d c (n + 60) → Q x H'
section
variable {P : Program} {w : World} {K : PySem.W.Frag} {mg : Str → Option Value} {base : Heap} {ad : Nm → Addr} {dd : Nm → FuncData}
theorem scSing : FnScope ["_law_pen_here", "_law_number", "_law_high", "_law_some"] ["_law_pen_here"] (defScope sSing) := ⟨rfl, rfl, rfl, by decide +kernel, rfl, by decide +kernel, by decide +kernel⟩
theorem ok_sing (T : Txt K mg ad dd) : FnOk P w K mg base CX0 4 (ad .Sing) (dd .Sing) ["_law_pen_here"] spSing := by
  have GDraw := ok_draw (P := P) (w := w) (base := base) T
  have GPick := ok_pick (P := P) (w := w) (base := base) T
  have GStrg := ok_strg (P := P) (w := w) (base := base) T
  refine T.Sing.F.ok scSing (fun vs H Q E h => ?_) (fun cdv A outer s H vs Q E hr h => ?_)
  · obtain ⟨d, c, n, rfl, _⟩ := h
    rfl
  obtain ⟨d, c, n, rfl, hp, hn, k⟩ := h
  refine ⟨_, (pss_cons (ps_par (i := 1) (j := 2) rfl scSing.nd rfl rfl (by decide) rfl rfl (pa_cons (pe_op op_mul (pe_call GDraw (hr.mono (by first | decide | omega)) rfl T.Draw.m T.Draw.F.kp T.Draw.b .nil pass0 (pa_cons (pv 0) (pa_cons (pe_op op_pow pe_int pe_int) pa_nil))) (pe_call GPick (hr.mono (by first | decide | omega)) rfl T.Pick.m T.Pick.F.kp T.Pick.b .nil pass0 (pa_cons (pv 0) (pa_cons (pe_lst (pa_cons pe_int (pa_cons (pe_op op_pow pe_int pe_int) (pa_cons (pe_op op_pow pe_int pe_int) pa_nil)))) pa_nil)))) (pa_cons (pe_op op_pow pe_int pe_int) pa_nil)) rfl)
      (pss_cons (ps_set (i := 3) scSing.nd rfl (Or.inl rfl) (pe_lst (pa_cons pe_non (pa_cons pe_bl (pa_cons pe_bl (pa_cons pe_int (pa_cons pe_int (pa_cons (pe_un un_neg pe_int) (pa_cons (pe_op op_mulW (pv 2) (pe_op op_pow pe_int pe_int)) (pa_cons (pe_op op_sub pe_int (pe_op op_mulW (pv 2) (pv 2))) (pa_cons (pv 1) (pa_cons (pe_op op_sub pe_int (pv 1)) (pa_cons pe_str (pa_cons pe_str (pa_cons pe_str (pa_cons pe_str pa_nil))))))))))))))))
      (pss_one (ps_ret (pe_call GPick (hr.mono (by first | decide | omega)) rfl T.Pick.m T.Pick.F.kp T.Pick.b .nil pass0 (pa_cons (pv 0) (pa_cons (pe_op op_cat (pv 3) (pe_lst (pa_cons (pe_call GStrg (hr.mono (by first | decide | omega)) rfl T.Strg.m T.Strg.F.kp T.Strg.b .nil pass0 (pa_cons (pv 0) pa_nil)) (pa_cons (pe_call GStrg (hr.mono (by first | decide | omega)) rfl T.Strg.m T.Strg.F.kp T.Strg.b .nil pass0 (pa_cons (pv 0) pa_nil)) (pa_cons (pe_call GStrg (hr.mono (by first | decide | omega)) rfl T.Strg.m T.Strg.F.kp T.Strg.b .nil pass0 (pa_cons (pv 0) pa_nil)) (pa_cons (pe_tup pa_nil) pa_nil)))))) pa_nil))))))), ?_⟩
  have e9 : (10 : Int) ^ (9 : Int).toNat = 1000000000 := by decide
  have e21 : (10 : Int) ^ (21 : Int).toNat = 1000000000000000000000 := by decide
  refine ⟨_, rfl, _, _, rfl, rfl, ⟨by decide, by decide, by decide⟩, d, c, n, _, rfl, hp, by omega, by decide, by decide, fun r H1 r0 r1 b1 p1 => ?_⟩
  rw [e9] at r1
  refine ⟨_, rfl, _, _, rfl, rfl, ⟨by decide, by decide, by decide⟩, _, _, rfl, rfl, ⟨by decide, by decide, by decide⟩, (by show 3 ≤ sizeLine; decide), fun p hp0 => ?_⟩
  have s1 := same_new hp0 (.lst [V.int 1, .int (10 ^ (9 : Int).toNat), .int (10 ^ (21 : Int).toNat)])
  refine ⟨d, c, n + 1, _, rfl, p1.same s1, by omega, .inl ⟨p, [V.int 1, .int (10 ^ (9 : Int).toNat), .int (10 ^ (21 : Int).toNat)], rfl, upd_same, (by show 0 < 3; decide), (by show 3 < 1000; decide), fun y H2 hy b2 p2 => ?_⟩⟩
  obtain ⟨j, rfl, j0, j1⟩ : ∃ j : Int, y = .int j ∧ 0 ≤ j ∧ j ≤ 1000000000000000000000 := by
    have h : y = .int 1 ∨ y = .int (10 ^ (9 : Int).toNat) ∨ y = .int (10 ^ (21 : Int).toNat) := by simpa using hy
    rcases h with rfl | rfl | rfl
    · exact ⟨_, rfl, by omega, by omega⟩
    · exact ⟨_, rfl, by rw [e9]; omega, by rw [e9]; omega⟩
    · exact ⟨_, rfl, by rw [e21]; omega, by rw [e21]; omega⟩
  have B2 : But d H H2 := But.trans b1 (But.trans (But.of_same s1) b2)
  refine ⟨_, _, rfl, rfl, .inl ⟨by omega, by omega⟩, _, _, rfl, rfl, ⟨by decide, by decide, by decide⟩, _, _, rfl, ?_⟩
  have z0 : 0 ≤ r * j := Int.mul_nonneg r0 j0
  have z1 : r * j < 10 ^ 30 := by
    have q1 : r * j ≤ 999999999 * j := Int.mul_le_mul_of_nonneg_right (by omega) j0
    omega
  refine ⟨_, rfl, _, rfl, _, _, rfl, rfl, ⟨by decide, by decide, by decide⟩, _, _, rfl, rfl, wide_mul (a := 200) (b := 200) (by decide) (by decide) (by decide) (by decide) (by decide), _, rfl, _, rfl, _, _, rfl, rfl, wide_mul (a := 200) (b := 200) (by decide) (by decide) (by decide) (by decide) (by decide), _, _, rfl, rfl, _, rfl, _, rfl, _, _, rfl, rfl, (by show 14 ≤ sizeLine; decide), fun l hl => ?_⟩
  generalize hH : upd H2 l (HO.lst _) = H3
  have sl : Same H2 H3 := by
    rw [← hH]
    exact same_new hl _
  have L0 : H3 l = some (.lst (someL (r * j))) := by
    rw [← hH]
    exact upd_same
  have B3 : But d H H3 := But.trans B2 (But.of_same sl)
  have p3 := p2.same sl
  have nld : l ≠ d := (p2.not_none hl).symm
  refine ⟨_, rfl, _, rfl, _, rfl, d, c, _, rfl, p3, by omega, fun x1 H4 g1 l1 b4 p4 => ?_⟩
  refine ⟨_, rfl, d, c, _, rfl, p4, by omega, fun x2 H5 g2 l2 b5 p5 => ?_⟩
  refine ⟨_, rfl, d, c, _, rfl, p5, by omega, fun x3 H6 g3 l3 b6 p6 => ?_⟩
  refine ⟨Nat.zero_le _, fun u hu1 => ?_⟩
  have su := same_new hu1 (.tup [])
  have U0 : (upd H6 u (.tup [])) u = some (.tup []) := upd_same
  have p7 := p6.same su
  have L1 := su _ _ (b6 _ _ nld (b5 _ _ nld (b4 _ _ nld L0)))
  have B4 : But d H (upd H6 u (.tup [])) := But.trans B3 (But.trans b4 (But.trans b5 (But.trans b6 (But.of_same su))))
  generalize upd H6 u (.tup []) = H7 at U0 p7 L1 B4
  refine ⟨(by show 4 ≤ sizeLine; decide), fun q hq => ?_⟩
  have sq := same_new hq (.lst [V.str (S x1), .str (S x2), .str (S x3), .ref u])
  refine ⟨l, q, _, _, rfl, rfl, sq _ _ L1, upd_same, (by show 14 + 4 ≤ sizeLine; decide), fun v hv => ?_⟩
  have sv := same_new hv (.lst (someL (r * j) ++ [V.str (S x1), .str (S x2), .str (S x3), .ref u]))
  have p8 := (p7.same sq).same sv
  refine ⟨d, c, _, _, rfl, p8, by omega, .inl ⟨v, _, rfl, upd_same, (by show 0 < 18; decide), (by show 18 < 1000; decide), fun y H8 hy8 b8 p9 => ?_⟩⟩
  refine k y H8 ?_ (But.trans B4 (But.trans (But.of_same sq) (But.trans (But.of_same sv) b8))) (p9.mono (by omega))
  rcases List.mem_append.mp hy8 with hm | hm
  · exact some_ok H8 (r * j) z0 z1 y hm
  · have h : y = .str (S x1) ∨ y = .str (S x2) ∨ y = .str (S x3) ∨ y = .ref u := by simpa using hm
    rcases h with rfl | rfl | rfl | rfl
    · exact leaf_S H8 _ g1 l1
    · exact leaf_S H8 _ g2 l2
    · exact leaf_S H8 _ g3 l3
    · exact leaf_nil H8 u (Tups.of_but b8 p8 _ _ (sv _ _ (sq _ _ U0)))
end
end TK
namespace TK
open PySem L2
theorem But.upd_of {d D : Addr} {H H2 H3 : Hp} {o : HO} (B : But d H H2) (hD : H2 D = none) (nD : D ≠ d) (h : But d H H3) : But d H (upd H3 D o) := fun b u hb e => by
  have nb : b ≠ D := fun q => by
    rw [q] at e
    exact absurd (B D u nD e) (by rw [hD]; exact fun z => nomatch z)
  rw [upd_ne nb]
  exact h b u hb e
def wc : Nat → Nat
  | 0 => 100
  | k + 1 => 100 + 4 * wc k
def wp : Nat → Nat
  | 0 => 1
  | k + 1 => 1 + 4 * wp k
theorem wp_pos : ∀ k, 1 ≤ wp k
  | 0 => Nat.le_refl _
  | k + 1 => Nat.le_add_right _ _
theorem wc_ge : ∀ k, 100 ≤ wc k
  | 0 => Nat.le_refl _
  | k + 1 => Nat.le_add_right _ _
/-- n calls are allowed -/
def spWide (n : Nat) : Sp := fun vs H Q _ => ∃ (d c : Addr) (m j : Nat), vs = [.ref d, .int (j : Int)] ∧ j < n ∧ PenAt H d c m ∧ m + wc j < 2 ^ 50 ∧
  ∀ (x : V) (t : PyData) (H' : Hp), Tr H' x t → gd t = true → dp t ≤ j + 1 → pts t ≤ wp j → But d H H' → PenAt H' d c (m + wc j) → Q x H'
section
variable {P : Program} {w : World} {K : PySem.W.Frag} {mg : Str → Option Value} {base : Heap} {ad : Nm → Addr} {dd : Nm → FuncData}
theorem scWide : FnScope ["_law_pen_here", "_law_deep", "_law_k"] ["_law_pen_here", "_law_deep"] (defScope sWide) := ⟨rfl, rfl, rfl, by decide +kernel, rfl, by decide +kernel, by decide +kernel⟩
theorem wide_step (T : Txt K mg ad dd) {N : Nat} (GWide : FnOk P w K mg base CX0 (4 + N) (ad .Wide) (dd .Wide) ["_law_pen_here", "_law_deep"] (spWide N)) : FnOk P w K mg base CX0 (4 + N + 1) (ad .Wide) (dd .Wide) ["_law_pen_here", "_law_deep"] (spWide (N + 1)) := by
  have GDraw := ok_draw (P := P) (w := w) (base := base) T
  have GSing := ok_sing (P := P) (w := w) (base := base) T
  refine T.Wide.F.ok scWide (fun vs H Q E h => ?_) (fun cdv A outer s H vs Q E hr h => ?_)
  · obtain ⟨d, c, m, j, rfl, _⟩ := h
    rfl
  obtain ⟨d, c, m, deep, rfl, hdeep, hp, hm, k⟩ := h
  have hge := wc_ge deep
  have one : ∀ (H1 : Hp) (m1 : Nat), But d H H1 → PenAt H1 d c m1 → m1 ≤ m + 1 → spSing [.ref d] H1 Q E := fun H1 m1 b1 p1 hm1 => ⟨d, c, m1, rfl, p1, by omega, fun x H' ⟨t, h1, h2, h3, h4⟩ b2 p2 =>
    k x t H' h1 h2 (by omega) (Nat.le_trans h4 (wp_pos deep)) (But.trans b1 b2) (p2.mono (by omega))⟩
  refine ⟨_, (pss_cons (ps_if (PW.pt (pw_or (pt_cmpR op_eq (pv 1) pe_int (nomark _)) (pw_or1 (pt_cmpR op_eq (pe_call GDraw (hr.mono (by first | decide | omega)) rfl T.Draw.m T.Draw.F.kp T.Draw.b .nil pass0 (pa_cons (pv 0) (pa_cons pe_int pa_nil))) pe_int (nomark _))))) (pss_one (ps_ret (pe_call GSing (hr.mono (by first | decide | omega)) rfl T.Sing.m T.Sing.F.kp T.Sing.b .nil pass0 (pa_cons (pv 0) pa_nil)))) pss_nil)
      (pss_one (ps_ret (pe_callTy call_tuple_of (by rfl) T.n_tuple bt_tuple (pa_cons (pe_lc (own := [("_law_k", 2)]) (g := gName 2) (tt := tYes) rfl scWide.nd (pi_range1 rfl T.n_range (pa_cons (pe_call GDraw (hr.mono (by first | decide | omega)) rfl T.Draw.m T.Draw.F.kp T.Draw.b .nil pass0 (pa_cons (pv 0) (pa_cons pe_int pa_nil))) pa_nil)) (blkOk_by (N := ["_law_pen_here", "_law_deep", "_law_k"]) (sc := defScope sWide) (by decide +kernel)) (fun _ _ _ _ _ => pg_name (i := 2) scWide.nd rfl (Or.inl rfl)) (fun _ _ _ _ _ => pts_nil) (fun _ _ _ _ _ => (pe_call GWide (hr.mono (by first | decide | omega)) rfl T.Wide.m T.Wide.F.kp T.Wide.b .nil pass0 (pa_cons (pv 0) (pa_cons (pe_op op_sub (pv 1) pe_int) pa_nil))))) pa_nil))))), ?_⟩
  refine ⟨_, rfl, rfl, _, rfl, ?_⟩
  refine ite2 (fun _ => ⟨_, rfl, one H m (But.refl _ _) hp (by omega)⟩) (fun hz => ?_)
  refine ⟨_, rfl, d, c, m, _, rfl, hp, by omega, by decide, by decide, fun r H1 r0 r1 b1 p1 => ⟨rfl, _, rfl, ?_⟩⟩
  refine ite2 (fun _ => ⟨_, rfl, one H1 (m + 1) b1 p1 (Nat.le_refl _)⟩) (fun _ => ?_)
  obtain ⟨dm, rfl⟩ : ∃ dm, deep = dm + 1 := by
    cases deep with
    | zero => exact absurd (by decide) hz
    | succ dm => exact ⟨dm, rfl⟩
  have ewc : wc (dm + 1) = 100 + 4 * wc dm := rfl
  have ewp : wp (dm + 1) = 1 + 4 * wp dm := rfl
  have hgm := wc_ge dm
  refine ⟨_, rfl, d, c, m + 1, _, rfl, p1, by omega, by decide, by decide, fun q H2 q0 q1 b2 p2 => ⟨q, rfl, by omega, by omega, fun D hD => ?_⟩⟩
  have nD : D ≠ d := (p2.not_none hD).symm
  have nDc : D ≠ c := (p2.not_cells hD).symm
  have B2 : But d H H2 := But.trans b1 b2
  refine lc_range (n := q.toNat) (fun i H' => i ≤ 4 ∧ ∃ (vs : List V) (ts : List PyData), H' D = some (.lst vs) ∧ TrAll H' vs ts ∧ vs.length = i ∧ gds ts = true ∧ dps ts ≤ dm + 1 ∧ ptss ts ≤ i * wp dm ∧ But d H H' ∧ PenAt H' d c (m + 2 + i * wc dm))
    ⟨Nat.zero_le _, [], [], upd_same, .nil, rfl, rfl, Nat.zero_le _, Nat.zero_le _, But.upd_of B2 hD nD B2, (p2.same (same_new hD _)).mono (by omega)⟩ ?_ ?_
  · rintro i H' hi ⟨hi4, vs, ts, h1, h2, h3, h4, h5, h6, h7, h8⟩
    have ew : (i + 1) * wc dm = i * wc dm + wc dm := Nat.succ_mul _ _
    have ew2 : (i + 1) * wp dm = i * wp dm + wp dm := Nat.succ_mul _ _
    have lim : (i + 1) * wc dm ≤ 4 * wc dm := Nat.mul_le_mul_right _ (by omega)
    have ej : [V.ref d, V.int (((dm + 1 : Nat) : Int) - 1)] = [V.ref d, V.int (dm : Int)] := by
      rw [show ((dm + 1 : Nat) : Int) - 1 = (dm : Int) by omega]
    refine ⟨rfl, _, rfl, _, rfl, _, _, rfl, rfl, d, c, m + 2 + i * wc dm, dm, ej, by omega, h8, by omega, fun x t H3 tr g1 g2 g3 b3 p3 => ?_⟩
    have hD3 := b3 _ _ nD h1
    have tk : Tups H' H3 := Tups.of_but b3 h8
    have tu : Tups H3 (upd H3 D (.lst (vs ++ [x]))) := fun a xs e => by rw [upd_ne (ne_of e hD3 (by intro z; cases z))]; exact e
    refine ⟨vs, hD3, by rw [h3, sizeLine_eq]; omega, by omega, vs ++ [x], ts ++ [t], upd_same, TrAll.keep tu _ _ (TrAll.snoc tr (TrAll.keep tk _ _ h2)), by rw [List.length_append, h3]; rfl, by rw [gds_snoc, h4, g1]; rfl, by rw [dps_snoc]; omega, by rw [ptss_snoc]; omega, But.upd_of B2 hD nD (But.trans h7 b3), (p3.other nD nDc).mono (by omega)⟩
  · rintro H' ⟨hi4, vs, ts, h1, h2, h3, h4, h5, h6, h7, h8⟩
    have lim : q.toNat * wc dm ≤ 4 * wc dm := Nat.mul_le_mul_right _ (by omega)
    have lim2 : q.toNat * wp dm ≤ 4 * wp dm := Nat.mul_le_mul_right _ (by omega)
    refine ⟨D, vs, rfl, .inl ⟨SqL.of h1, fun u hu => ?_⟩⟩
    have su := same_new hu (.tup vs)
    exact k (.ref u) (.tuple ts) _ (.tup upd_same (TrAll.keep (Tups.of_same su) _ _ h2)) h4 (by show dps ts + 1 ≤ _; omega) (by show ptss ts + 1 ≤ _; omega) (But.trans h7 (But.of_same su)) ((h8.same su).mono (by omega))
theorem wide_none : FnOk P w K mg base CX0 4 (ad .Wide) (dd .Wide) ["_law_pen_here", "_law_deep"] (spWide 0) := by
  have no : ∀ vs H Q E, ¬ spWide 0 vs H Q E := fun vs H Q E h => by
    obtain ⟨d, c, m, j, _, h1, _⟩ := h
    omega
  exact ⟨fun vs H Q E h => absurd h (no vs H Q E), fun A outer s H args us vs Q E _ _ _ _ h => absurd h (no vs H Q E)⟩
theorem ok_wide (T : Txt K mg ad dd) : ∀ N : Nat, FnOk P w K mg base CX0 (4 + N) (ad .Wide) (dd .Wide) ["_law_pen_here", "_law_deep"] (spWide N)
  | 0 => wide_none
  | N + 1 => wide_step T (ok_wide T N)
end
end TK
namespace TK
open PySem L2
def spWrap : Sp := fun vs H Q _ => ∃ (d c : Addr) (n m : Nat) (x : V) (t : PyData), vs = [.ref d, x, .int (m : Int)] ∧ m ≤ 25 ∧ PenAt H d c n ∧ n + m < 2 ^ 50 ∧ Tr H x t ∧ gd t = true ∧
  ∀ (y : V) (u : PyData) (H' : Hp), Tr H' y u → gd u = true → dp u ≤ dp t + m → pts u ≤ pts t + 3 * m → But d H H' → PenAt H' d c (n + m) → Q y H'
theorem dp_pos : ∀ t : PyData, 1 ≤ dp t
  | .tuple _ => Nat.succ_le_succ (Nat.zero_le _)
  | .none => Nat.le_refl _
  | .bool _ => Nat.le_refl _
  | .int _ => Nat.le_refl _
  | .str _ => Nat.le_refl _
  | .list _ => Nat.le_refl _
  | .dict _ => Nat.le_refl _
section
variable {P : Program} {w : World} {K : PySem.W.Frag} {mg : Str → Option Value} {base : Heap} {ad : Nm → Addr} {dd : Nm → FuncData}
theorem scWrap : FnScope ["_law_pen_here", "_law_tree", "_law_many", "_law_k"] ["_law_pen_here", "_law_tree", "_law_many"] (defScope sWrap) := ⟨rfl, rfl, rfl, by decide +kernel, rfl, by decide +kernel, by decide +kernel⟩
theorem ok_wrap (T : Txt K mg ad dd) : FnOk P w K mg base CX0 3 (ad .Wrap) (dd .Wrap) ["_law_pen_here", "_law_tree", "_law_many"] spWrap := by
  have GPick := ok_pick (P := P) (w := w) (base := base) T
  refine T.Wrap.F.ok scWrap (fun vs H Q E h => ?_) (fun cdv A outer s H vs Q E hr h => ?_)
  · obtain ⟨d, c, n, m, x, t, rfl, _⟩ := h
    rfl
  obtain ⟨d, c, n, m, x, t, rfl, hm, hp, hn, tr, g0, k⟩ := h
  refine ⟨_, (pss_cons (ps_for PassesOwn.never rfl (pi_range1 rfl T.n_range (pa_cons (pv 2) pa_nil)) (pg_name (i := 3) scWrap.nd rfl (Or.inl rfl)) (pss_one (ps_set (i := 1) scWrap.nd rfl (Or.inl rfl) (pe_call GPick (hr.mono (by first | decide | omega)) rfl T.Pick.m T.Pick.F.kp T.Pick.b .nil pass0 (pa_cons (pv 0) (pa_cons (pe_lst (pa_cons (pe_tup (pa_cons (pv 1) pa_nil)) (pa_cons (pe_tup (pa_cons pe_str (pa_cons (pv 1) pa_nil))) (pa_cons (pe_tup (pa_cons (pv 1) (pa_cons pe_int pa_nil))) (pa_cons (pe_tup (pa_cons (pe_tup pa_nil) (pa_cons (pv 1) (pa_cons pe_non pa_nil)))) pa_nil))))) pa_nil))))))
      (pss_one (ps_ret (pv 1)))), ?_⟩
  refine ⟨_, rfl, (m : Int), rfl, by omega, by omega, for_range (n := (m : Int).toNat) (fun i σ H' => ∃ (y : V) (u : PyData) (o : Option V), σ = [some (.ref d), some y, some (.int (m : Int)), o] ∧ Tr H' y u ∧ gd u = true ∧ dp u ≤ dp t + i ∧ pts u ≤ pts t + 3 * i ∧ But d H H' ∧ PenAt H' d c (n + i))
    ⟨x, t, none, rfl, tr, g0, Nat.le_refl _, Nat.le_refl _, But.refl _ _, hp⟩ ?_ ?_⟩
  · rintro i σ H1 hi ⟨y, u, o, rfl, tr1, g1, d1, q1, b1, p1⟩
    have hi' : i < m := by omega
    refine ⟨_, rfl, _, rfl, (by show 1 ≤ sizeLine; decide), fun a1 ha1 => ?_⟩
    have s1 := same_new ha1 (.tup [y])
    have A1 : (upd H1 a1 (.tup [y])) a1 = some (.tup [y]) := upd_same
    generalize upd H1 a1 (.tup [y]) = H2 at s1 A1
    refine ⟨_, rfl, (by show 2 ≤ sizeLine; decide), fun a2 ha2 => ?_⟩
    have s2 := same_new ha2 (.tup [.str "a", y])
    have A2 : (upd H2 a2 (.tup [.str "a", y])) a2 = some (.tup [.str "a", y]) := upd_same
    generalize upd H2 a2 (.tup [.str "a", y]) = H3 at s2 A2
    refine ⟨_, rfl, (by show 2 ≤ sizeLine; decide), fun a3 ha3 => ?_⟩
    have s3 := same_new ha3 (.tup [y, .int 0])
    have A3 : (upd H3 a3 (.tup [y, .int 0])) a3 = some (.tup [y, .int 0]) := upd_same
    generalize upd H3 a3 (.tup [y, .int 0]) = H4 at s3 A3
    refine ⟨Nat.zero_le _, fun a0 ha0 => ?_⟩
    have s4 := same_new ha0 (.tup [])
    have A0 : (upd H4 a0 (.tup [])) a0 = some (.tup []) := upd_same
    generalize upd H4 a0 (.tup []) = H5 at s4 A0
    refine ⟨_, rfl, (by show 3 ≤ sizeLine; decide), fun a4 ha4 => ?_⟩
    have s5 := same_new ha4 (.tup [.ref a0, y, .non])
    have A4 : (upd H5 a4 (.tup [.ref a0, y, .non])) a4 = some (.tup [.ref a0, y, .non]) := upd_same
    generalize upd H5 a4 (.tup [.ref a0, y, .non]) = H6 at s5 A4
    refine ⟨(by show 4 ≤ sizeLine; decide), fun l hl => ?_⟩
    have s6 := same_new hl (.lst [.ref a1, .ref a2, .ref a3, .ref a4])
    have sA : Same H1 H6 := ((((s1.trans s2).trans s3).trans s4).trans s5)
    refine ⟨d, c, n + i, _, rfl, (p1.same sA).same s6, by omega, .inl ⟨l, _, rfl, upd_same, (by show 0 < 4; decide), (by show 4 < 1000; decide), fun z H8 hz b8 p8 => ?_⟩⟩
    have tk : Tups H6 H8 := Tups.trans (Tups.of_same s6) (Tups.of_but b8 ((p1.same sA).same s6))
    have tr8 : Tr H8 y u := Tr.keep (Tups.trans (Tups.of_same sA) tk) _ _ tr1
    have B8 : But d H H8 := But.trans b1 (But.trans (But.of_same sA) (But.trans (But.of_same s6) b8))
    have ga : gd (.str "a") = true := by decide +kernel
    have h : z = .ref a1 ∨ z = .ref a2 ∨ z = .ref a3 ∨ z = .ref a4 := by simpa using hz
    rcases h with rfl | rfl | rfl | rfl
    · refine ⟨_, .tuple [u], _, rfl, .tup (tk _ _ (s5 _ _ (s4 _ _ (s3 _ _ (s2 _ _ A1))))) (.cons tr8 .nil), by show (gd u && true) = true; rw [g1]; rfl, ?_, ?_, B8, p8⟩
      · show max (dp u) 0 + 1 ≤ _
        omega
      · show (pts u + 0) + 1 ≤ _
        omega
    · refine ⟨_, .tuple [.str "a", u], _, rfl, .tup (tk _ _ (s5 _ _ (s4 _ _ (s3 _ _ A2)))) (.cons (.str _) (.cons tr8 .nil)), by show (gd (.str "a") && (gd u && true)) = true; rw [g1, ga]; rfl, ?_, ?_, B8, p8⟩
      · show max 1 (max (dp u) 0) + 1 ≤ _
        have := dp_pos u
        omega
      · show (1 + (pts u + 0)) + 1 ≤ _
        omega
    · refine ⟨_, .tuple [u, .int 0], _, rfl, .tup (tk _ _ (s5 _ _ (s4 _ _ A3))) (.cons tr8 (.cons (.int _) .nil)), by show (gd u && (gd (.int 0) && true)) = true; rw [g1]; rfl, ?_, ?_, B8, p8⟩
      · show max (dp u) (max 1 0) + 1 ≤ _
        have := dp_pos u
        omega
      · show (pts u + (1 + 0)) + 1 ≤ _
        omega
    · refine ⟨_, .tuple [.tuple [], u, .none], _, rfl, .tup (tk _ _ A4) (.cons (.tup (tk _ _ (s5 _ _ A0)) .nil) (.cons tr8 (.cons .non .nil))), by show (true && (gd u && (true && true))) = true; rw [g1]; rfl, ?_, ?_, B8, p8⟩
      · show max (0 + 1) (max (dp u) (max 1 0)) + 1 ≤ _
        have := dp_pos u
        omega
      · show ((0 + 1) + (pts u + (1 + 0))) + 1 ≤ _
        omega
  · rintro σ H1 ⟨y, u, o, rfl, tr1, g1, d1, q1, b1, p1⟩
    exact ⟨_, rfl, k y u H1 tr1 g1 (by omega) (by omega) b1 (p1.mono (by omega))⟩
end
end TK
namespace TK
open PySem L2
/-! ### x is True -/
theorem op_is_b {X : Cx} : OpR X (compareOp .Is) (fun x y H Q => ∃ b, y = .bl b ∧ ((∃ a, x = .bl a ∧ Q (.bl (decide (a = b))) H) ∨ (((∃ i, x = .int i) ∨ (∃ z, x = .str z) ∨ x = .non) ∧ Q (.bl false) H))) := by
  intro pins s σ H x y v u Q I rx ry h
  obtain ⟨b, rfl, h⟩ := h
  obtain rfl : u = Value.bool b := ry
  rcases h with ⟨a, rfl, q⟩ | ⟨h, q⟩
  · obtain rfl : v = Value.bool a := rx
    by_cases e : a = b
    · subst e
      exact wpAny_is_self rfl ⟨.bl true, H, I, rfl, by simpa using q⟩
    · exact wpAny_is_other rfl (fun z => e (Value.bool.inj z)) ⟨.bl false, H, I, rfl, by simpa [e] using q⟩
  · rcases h with ⟨i, rfl⟩ | ⟨z, rfl⟩ | rfl
    · obtain ⟨t, rfl⟩ := rx
      exact wpAny_is_other rfl (fun z => nomatch z) ⟨.bl false, H, I, rfl, q⟩
    · obtain ⟨t, rfl⟩ := rx
      exact wpAny_is_other rfl (fun z => nomatch z) ⟨.bl false, H, I, rfl, q⟩
    · obtain rfl : v = Value.none := rx
      exact wpAny_is_other rfl (fun z => nomatch z) ⟨.bl false, H, I, rfl, q⟩
/-! ### a written text, then what wants a token -/
theorem pe_opC {X : Cx} {op : Operator} {r : R2} {x : Str} {j : Nat} {p pos : Pos} {f : Expr} {tf : TE} (ho : OpR X (binaryOp op) r) (hb : PET X f tf) : PE X (.BinOp (.Constant (.str x) j p) op f pos) (tOp r (tC (.str x)) tf) := by
  refine ⟨fun pins s σ H Q I h => ?_⟩
  refine PySem.wpAny_BinOp (PySem.Calls.Constant_str ?_)
  exact thn (hb pins _ σ H _ (by show 1 ≤ s.toks + 1; omega) (I.tok _) h) fun u s2 ⟨y, H2, I2, r2, q2⟩ => ho pins s2 σ H2 (.str x) y _ u Q I2 ⟨_, rfl⟩ r2 q2
theorem pst_set {X : Cx} {i : Nat} {x : Str} {e : Expr} {te : TE} {pos' pos : Pos} (hN : X.N.Nodup) (hi : X.N[i]? = some x) (hx : Loc X.env.scope x) (he : PET X e te)
    (hs : swapsWith e (some (.Name x pos')) pos.line X.env = pure false := by rfl) (hf : X.fn x = true ∨ X.env.scope.names.lookup x = some .local := by first | exact .inl rfl | exact .inr rfl) : PST X (.Assign [.Name x pos'] e pos) (tAsg te (gName i)) := by
  intro pins s σ H D h0 I h
  exact PySem.wpAny_Assign_Name (thn (he pins s σ H _ h0 I h) fun u s1 ⟨v, H1, I1, r1, q1⟩ => store_ok I1 hN hi hx r1 (fun s2 I2 => ⟨_, _, I2, q1⟩) hf) hs
/-! ### signs escaped -/
def esc : List Nat → List Nat
  | [] => []
  | c :: r => (if c = 92 then [92, 92] else if c = 34 then [92, 34] else [c]) ++ esc r
theorem repl1 (y : Nat) (z : List Nat) : ∀ l : List Nat, StrLaws.replL [y] z l = l.flatMap fun c => if c = y then z else [c]
  | [] => StrLaws.replL_nil
  | c :: r => by
    rw [List.flatMap_cons, ← repl1 y z r]
    by_cases h : c = y
    · rw [if_pos h, StrLaws.replL_hit (by simp) (by rw [h]; rfl)]; rfl
    · rw [if_neg h, StrLaws.replL_miss (fun q => h (by simpa using q))]; rfl
theorem esc_eq : ∀ l : List Nat, StrLaws.replL [34] [92, 34] (StrLaws.replL [92] [92, 92] l) = esc l
  | [] => by rw [StrLaws.replL_nil, StrLaws.replL_nil]; rfl
  | c :: r => by
    have ih := esc_eq r
    rw [repl1, repl1] at ih ⊢
    rw [List.flatMap_cons, List.flatMap_append, ih]
    show _ = (if c = 92 then [92, 92] else if c = 34 then [92, 34] else [c]) ++ esc r
    by_cases h : c = 92
    · rw [if_pos h, if_pos h]; rfl
    · rw [if_neg h, if_neg h]
      by_cases h2 : c = 34
      · rw [if_pos h2, h2]; rfl
      · rw [if_neg h2, List.flatMap_cons, List.flatMap_nil, if_neg h2]; rfl
theorem esc_str (x : Str) : PySem.Txt.replace (PySem.Txt.replace x (Str.ofString "\\") (Str.ofString "\\\\")) (Str.ofString "\"") (Str.ofString "\\\"") = S (esc x.cps.toList) := by
  apply TL.ext_tl
  show (PySem.Txt.replace _ _ _).cps.toList = (esc x.cps.toList)
  have e1 : (Str.ofString "\\").cps.toList = [92] := by decide +kernel
  have e2 : (Str.ofString "\\\\").cps.toList = [92, 92] := by decide +kernel
  have e3 : (Str.ofString "\"").cps.toList = [34] := by decide +kernel
  have e4 : (Str.ofString "\\\"").cps.toList = [92, 34] := by decide +kernel
  rw [StrLaws.replace_list (by decide +kernel), StrLaws.replace_list (by decide +kernel), e1, e2, e3, e4, esc_eq]
theorem esc_len : ∀ l : List Nat, (esc l).length ≤ 2 * l.length
  | [] => Nat.le_refl _
  | c :: r => by
    have ih := esc_len r
    show ((if c = 92 then [92, 92] else if c = 34 then [92, 34] else [c]) ++ esc r).length ≤ 2 * (r.length + 1)
    rw [List.length_append]
    have h : (if c = 92 then [92, 92] else if c = 34 then [92, 34] else [c]).length ≤ 2 := by
      split
      · exact Nat.le_refl _
      · split
        · exact Nat.le_refl _
        · exact Nat.le_succ _
    omega
end TK
namespace TK
open PySem L2
/-! ### the text of a tree -/
/-- the signs of a whole number -/
def intL (i : Int) : List Nat := (Str.ofString (toString i)).cps.toList
theorem intL_nat (n : Nat) : intL (n : Int) = TL.numL n := TL.tl_num n
theorem intL_neg (m : Nat) : intL (Int.negSucc m) = 45 :: TL.numL (m + 1) := by
  have e : toString (Int.negSucc m) = "-" ++ Nat.repr (m + 1) := rfl
  unfold intL
  rw [Str.ofString_eq_toList, e]
  show ("-" ++ Nat.repr (m + 1)).toList.map Char.toNat = _
  rw [String.toList_append, List.map_append, Nat.toList_repr]
  rfl
theorem intL_len {i : Int} (h : i.natAbs < 10 ^ 100) : (intL i).length ≤ 101 := by
  cases i with
  | ofNat n =>
    have e := TL.numL_len (n := n) (k := 100) (by decide) h
    rw [show Int.ofNat n = (n : Int) from rfl, intL_nat]
    omega
  | negSucc m =>
    have e := TL.numL_len (n := m + 1) (k := 100) (by decide) h
    rw [intL_neg, List.length_cons]
    omega
set_option exponentiation.threshold 2000 in
theorem bits_of {i : Int} (h : i.natAbs < 10 ^ 100) : i.natAbs.log2 < 1920 := by
  have e : (10 : Nat) ^ 100 ≤ 2 ^ 1920 := by decide
  exact PySem.Flt.log2_lt_of (by decide) (by omega)
mutual
def wr : PyData → List Nat
  | .none => [45]
  | .bool b => if b then [121, 101, 115] else [110, 111]
  | .int i => intL i
  | .str x => [34] ++ esc x.cps.toList ++ [34]
  | .tuple ts => [40] ++ TL.joinL [32] (wrs ts) ++ [41]
  | .list _ => []
  | .dict _ => []
def wrs : List PyData → List (List Nat)
  | [] => []
  | t :: ts => wr t :: wrs ts
end
theorem join_len1 : ∀ ls : List (List Nat), (TL.joinL [32] ls).length ≤ (ls.map (·.length)).sum + ls.length
  | [] => Nat.zero_le _
  | [p] => by
    show p.length ≤ (p.length + 0) + 1
    omega
  | p :: q :: r => by
    have ih := join_len1 (q :: r)
    show (p ++ ([32] ++ TL.joinL [32] (q :: r))).length ≤ (p.length + ((q :: r).map (·.length)).sum) + ((q :: r).length + 1)
    rw [List.length_append, List.length_append, List.length_singleton]
    omega
mutual
theorem wr_len : ∀ t : PyData, gd t = true → (wr t).length + 1 ≤ 112 * pts t
  | .none, _ => by decide
  | .bool b, _ => by cases b <;> decide
  | .int i, h => by
    have e := intL_len (of_decide_eq_true h)
    show (intL i).length + 1 ≤ 112 * 1
    omega
  | .str x, h => by
    have h' : (x.cps.toList.all plainC && decide (x.length ≤ 12)) = true := h
    rw [Bool.and_eq_true] at h'
    have h2 := of_decide_eq_true h'.2
    have h3 : x.length = x.cps.toList.length := Array.length_toList.symm
    have e := esc_len x.cps.toList
    show ([34] ++ esc x.cps.toList ++ [34]).length + 1 ≤ 112 * 1
    rw [List.length_append, List.length_append]
    show 1 + _ + 1 + 1 ≤ _
    omega
  | .tuple ts, h => by
    have e := wrs_len ts h
    have j := join_len1 (wrs ts)
    show ([40] ++ TL.joinL [32] (wrs ts) ++ [41]).length + 1 ≤ 112 * (ptss ts + 1)
    rw [List.length_append, List.length_append]
    show 1 + _ + 1 + 1 ≤ _
    omega
  | .list _, h => by cases h
  | .dict _, h => by cases h
theorem wrs_len : ∀ ts : List PyData, gds ts = true → ((wrs ts).map (·.length)).sum + (wrs ts).length ≤ 112 * ptss ts
  | [], _ => Nat.le_refl _
  | t :: ts, h => by
    have h' : (gd t && gds ts) = true := h
    rw [Bool.and_eq_true] at h'
    have e1 := wr_len t h'.1
    have e2 := wrs_len ts h'.2
    show ((wr t).length + ((wrs ts).map (·.length)).sum) + ((wrs ts).length + 1) ≤ 112 * (pts t + ptss ts)
    omega
end
theorem wrs_length : ∀ ts : List PyData, (wrs ts).length = ts.length
  | [] => rfl
  | _ :: ts => congrArg (· + 1) (wrs_length ts)
theorem wrs_snoc : ∀ (ts : List PyData) (t : PyData), wrs (ts ++ [t]) = wrs ts ++ [wr t]
  | [], _ => rfl
  | u :: ts, t => congrArg (wr u :: ·) (wrs_snoc ts t)
theorem TrAll.get {H : Hp} : ∀ {xs : List V} {ts : List PyData} {i : Nat} {x : V}, TrAll H xs ts → xs[i]? = some x → ∃ t, ts[i]? = some t ∧ Tr H x t
  | _, _, _, _, .nil, e => by simp at e
  | _, _, 0, _, .cons h _, e => by
    simp at e
    subst e
    exact ⟨_, rfl, h⟩
  | _, _, i + 1, x, .cons _ q, e => by
    obtain ⟨t, h1, h2⟩ := TrAll.get (i := i) (x := x) q (by simpa using e)
    exact ⟨t, by simpa using h1, h2⟩
theorem ts_get : ∀ {ts : List PyData} {i : Nat} {t : PyData}, gds ts = true → ts[i]? = some t → gd t = true ∧ dp t ≤ dps ts ∧ pts t ≤ ptss ts
  | [], _, _, _, e => by simp at e
  | u :: ts, 0, t, g, e => by
    simp at e
    subst e
    have h' : (gd u && gds ts) = true := g
    rw [Bool.and_eq_true] at h'
    exact ⟨h'.1, Nat.le_max_left _ _, Nat.le_add_right _ _⟩
  | u :: ts, i + 1, t, g, e => by
    have h' : (gd u && gds ts) = true := g
    rw [Bool.and_eq_true] at h'
    obtain ⟨h1, h2, h3⟩ := ts_get (i := i) (t := t) h'.2 (by simpa using e)
    exact ⟨h1, Nat.le_trans h2 (Nat.le_max_right _ _), Nat.le_trans h3 (Nat.le_add_left _ _)⟩
theorem take_next {α : Type} {l : List α} {i : Nat} {x : α} (h : l[i]? = some x) : l.take (i + 1) = l.take i ++ [x] := by
  rw [List.take_add_one, h]; rfl
theorem e32 : Str.ofString " " = S [32] := by decide +kernel
theorem e34 : Str.ofString "\"" = S [34] := by decide +kernel
theorem e40 : Str.ofString "(" = S [40] := by decide +kernel
theorem e41 : Str.ofString ")" = S [41] := by decide +kernel
theorem sum_S (ls : List (List Nat)) : ((ls.map S).map (·.length)).sum = (ls.map (·.length)).sum := by
  rw [List.map_map]
  exact congrArg List.sum (List.map_congr_left fun l _ => S_len l)
/-! ### kinds -/
def nm : PyData → String
  | .none => "NoneType"
  | .bool _ => "bool"
  | .int _ => "int"
  | .str _ => "str"
  | .tuple _ => "tuple"
  | .list _ => "list"
  | .dict _ => "dict"
theorem Tr.ty {K : PySem.W.Frag} {H : Hp} {t : PyData} {v : V} (h : Tr H v t) : TyX K H v (.type (nm t)) := by
  cases h with
  | non => exact .base .non
  | bl b => exact .base (.bl b)
  | int i => exact .base (.int i)
  | str x => exact .base (.str x)
  | tup h _ => exact .base (.tup h)
section
variable {K : PySem.W.Frag}
theorem k_tt : PySem.W.kitOne K (.type "tuple") (.type "tuple") = some true := kit_ty (by decide +kernel)
theorem k_nt : PySem.W.kitOne K (.type "NoneType") (.type "tuple") = some false := kit_ty (by decide +kernel)
theorem k_bt : PySem.W.kitOne K (.type "bool") (.type "tuple") = some false := kit_ty (by decide +kernel)
theorem k_it : PySem.W.kitOne K (.type "int") (.type "tuple") = some false := kit_ty (by decide +kernel)
theorem k_st : PySem.W.kitOne K (.type "str") (.type "tuple") = some false := kit_ty (by decide +kernel)
theorem k_ss : PySem.W.kitOne K (.type "str") (.type "str") = some true := kit_ty (by decide +kernel)
theorem k_ns : PySem.W.kitOne K (.type "NoneType") (.type "str") = some false := kit_ty (by decide +kernel)
theorem k_bs : PySem.W.kitOne K (.type "bool") (.type "str") = some false := kit_ty (by decide +kernel)
theorem k_is_ : PySem.W.kitOne K (.type "int") (.type "str") = some false := kit_ty (by decide +kernel)
theorem k_bb : PySem.W.kitOne K (.type "bool") (.type "bool") = some true := kit_ty (by decide +kernel)
theorem k_nb : PySem.W.kitOne K (.type "NoneType") (.type "bool") = some false := kit_ty (by decide +kernel)
theorem k_ib : PySem.W.kitOne K (.type "int") (.type "bool") = some false := kit_ty (by decide +kernel)
end
/-- n calls are allowed -/
def spWrit (n : Nat) : Sp := fun vs H Q _ => ∃ (x : V) (t : PyData), vs = [x] ∧ Tr H x t ∧ gd t = true ∧ dp t ≤ n ∧ pts t ≤ 2000 ∧ ∀ H' : Hp, Same H H' → Q (.str (S (wr t))) H'
section
variable {P : Program} {w : World} {K : PySem.W.Frag} {mg : Str → Option Value} {base : Heap} {ad : Nm → Addr} {dd : Nm → FuncData}
theorem scWrit : FnScope ["_law_tree", "_law_part"] ["_law_tree"] (defScope sWrit) := ⟨rfl, rfl, rfl, by decide +kernel, rfl, by decide +kernel, by decide +kernel⟩
theorem writ_step (T : Txt K mg ad dd) {N : Nat} (GWrit : FnOk P w K mg base CX0 N (ad .Writ) (dd .Writ) ["_law_tree"] (spWrit N)) : FnOk P w K mg base CX0 (N + 1) (ad .Writ) (dd .Writ) ["_law_tree"] (spWrit (N + 1)) := by
  refine T.Writ.F.ok scWrit (fun vs H Q E h => ?_) (fun cdv A outer s H vs Q E hr h => ?_)
  · obtain ⟨x, t, rfl, _⟩ := h
    rfl
  obtain ⟨x, t, rfl, tr, g, hd, hp, k⟩ := h
  have hz : sizeLine = 16777216 := sizeLine_eq
  refine ⟨_, (pss_cons (ps_if (pt_val (pe_callB call_isi (by rfl) T.n_isinstance bt_isinstance (pa_cons (pv 0) (pa_cons (pe_bltn (v := .ty "tuple") rfl T.n_tuple bt_tuple rfl) pa_nil))) (fun _ => rfl)) (pss_one (ps_ret (pe_op op_add_str (pe_op op_add_str pe_str (pe_join pe_str (pe_lc (own := [("_law_part", 1)]) (g := gName 1) (tt := tYes) rfl scWrit.nd (pi_tup (pv 0)) (blkOk_by (N := ["_law_tree", "_law_part"]) (sc := defScope sWrit) (by decide +kernel)) (fun _ _ _ _ _ => pg_name (i := 1) scWrit.nd rfl (Or.inl rfl)) (fun _ _ _ _ _ => pts_nil) (fun _ _ _ _ _ => (pe_call GWrit (hr.mono (by first | decide | omega)) rfl T.Writ.m T.Writ.F.kp T.Writ.b .nil pass0 (pa_cons (pv 1) pa_nil)))))) pe_str))) pss_nil)
      (pss_cons (ps_if (pt_val (pe_callB call_isi (by rfl) T.n_isinstance bt_isinstance (pa_cons (pv 0) (pa_cons (pe_bltn (v := .ty "str") rfl T.n_str bt_str rfl) pa_nil))) (fun _ => rfl)) (pss_one (ps_ret (pe_op op_add_str (pe_opC op_add_str (CwR.pet_replT (CwR.pet_replC (pv 0)))) pe_str))) pss_nil)
      (pss_cons (ps_if (PW.pt (pw_or (pt_val (pe_callB call_isi (by rfl) T.n_isinstance bt_isinstance (pa_cons (pv 0) (pa_cons (pe_bltn (v := .ty "bool") rfl T.n_bool bt_bool rfl) pa_nil))) (fun _ => rfl)) (pw_or1 (pt_cmpR op_isN (pv 0) pe_non (nomark _))))) (pss_one (ps_ret (pe_ifExp (pt_cmpR op_isN (pv 0) pe_non (nomark _)) pe_str (pe_ifExp (pt_truth (pv 0) (fun _ => rfl)) pe_str pe_str)))) pss_nil)
      (pss_one (ps_ret (pe_callTy call_str_int (by rfl) T.n_str bt_str (pa_cons (pv 0) pa_nil))))))), ?_⟩
  cases tr with
  | non =>
    refine ⟨_, rfl, _, _, _, _, false, rfl, .ty _, .base .non, k_nt, _, rfl, ?_⟩
    refine ⟨_, rfl, _, _, _, _, false, rfl, .ty _, .base .non, k_ns, _, rfl, ?_⟩
    refine ⟨_, rfl, _, _, _, _, false, rfl, .ty _, .base .non, k_nb, _, rfl, ?_⟩
    refine ⟨_, rfl, rfl, _, rfl, ?_⟩
    refine ⟨_, rfl, rfl, _, rfl, ?_⟩
    exact k H (Same.refl H)
  | bl b =>
    refine ⟨_, rfl, _, _, _, _, false, rfl, .ty _, .base (.bl b), k_bt, _, rfl, ?_⟩
    refine ⟨_, rfl, _, _, _, _, false, rfl, .ty _, .base (.bl b), k_bs, _, rfl, ?_⟩
    refine ⟨_, rfl, _, _, _, _, true, rfl, .ty _, .base (.bl b), k_bb, _, rfl, ?_⟩
    refine ⟨_, rfl, rfl, _, rfl, ?_⟩
    refine ⟨_, rfl, b, rfl, ?_⟩
    cases b with
    | true => exact k H (Same.refl H)
    | false => exact k H (Same.refl H)
  | int i =>
    refine ⟨_, rfl, _, _, _, _, false, rfl, .ty _, .base (.int i), k_it, _, rfl, ?_⟩
    refine ⟨_, rfl, _, _, _, _, false, rfl, .ty _, .base (.int i), k_is_, _, rfl, ?_⟩
    refine ⟨_, rfl, _, _, _, _, false, rfl, .ty _, .base (.int i), k_ib, _, rfl, ?_⟩
    refine ⟨_, rfl, rfl, _, rfl, ?_⟩
    exact ⟨_, rfl, i, rfl, bits_of (of_decide_eq_true g), k H (Same.refl H)⟩
  | str z =>
    refine ⟨_, rfl, _, _, _, _, false, rfl, .ty _, .base (.str z), k_st, _, rfl, ?_⟩
    refine ⟨_, rfl, _, _, _, _, true, rfl, .ty _, .base (.str z), k_ss, _, rfl, ?_⟩
    have g' : (z.cps.toList.all plainC && decide (z.length ≤ 12)) = true := g
    rw [Bool.and_eq_true] at g'
    have zl := of_decide_eq_true g'.2
    have l1 := TK.replace_len z (Str.ofString "\\") (Str.ofString "\\\\")
    have c2 : (Str.ofString "\\\\").length = 2 := by decide +kernel
    have c3 : (Str.ofString "\\\"").length = 2 := by decide +kernel
    have c1 : (Str.ofString "\"").length = 1 := by decide +kernel
    have l2 := esc_len z.cps.toList
    have l3 : z.length = z.cps.toList.length := Array.length_toList.symm
    rw [c2] at l1
    refine ⟨_, rfl, z, rfl, by rw [c2]; omega, _, rfl, by rw [c3]; omega, _, _, rfl, rfl, by rw [esc_str, e34, S_len, S_len]; show 1 + _ ≤ _; omega, _, _, rfl, rfl, ?_, ?_⟩
    · rw [esc_str, e34, S_app, S_len, S_len, List.length_append]
      show 1 + _ + 1 ≤ _
      omega
    · rw [esc_str, e34, S_app, S_app]
      exact k H (Same.refl H)
  | @tup a xs ts h1 h2 =>
    refine ⟨_, rfl, _, _, _, _, true, rfl, .ty _, .base (.tup h1), k_tt, _, rfl, ?_⟩
    have hd' : dps ts + 1 ≤ N + 1 := hd
    have hp' : ptss ts + 1 ≤ 2000 := hp
    have wl := wrs_len ts g
    have jl := join_len1 (wrs ts)
    have xl := h2.length
    have el := wrs_length ts
    refine ⟨⟨_, rfl⟩, _, rfl, a, rfl, ⟨xs, SqT.of h1⟩, fun D hD => lc_tup (xs := xs) (fun i H' => H' D = some (.lst ((wrs (ts.take i)).map fun l => .str (S l))) ∧ Same H H') ⟨upd_same, same_new hD _⟩ (fun i H' _ q => SqT.of (q.2 _ _ h1)) ?_ ?_⟩
    · rintro i x H' hx ⟨q1, q2⟩
      obtain ⟨t, ht, trx⟩ := TrAll.get h2 hx
      obtain ⟨m1, m2, m3⟩ := ts_get g ht
      have il : i < ts.length := (List.getElem?_eq_some_iff.mp ht).1
      refine ⟨rfl, _, rfl, x, t, rfl, Tr.keep (Tups.of_same q2) _ _ trx, m1, by omega, by omega, fun H3 q3 => ⟨_, q3 _ _ q1, ?_, ?_, ?_⟩⟩
      · rw [List.length_map, wrs_length, List.length_take]
        omega
      · rw [upd_same, take_next ht, wrs_snoc, List.map_append]; rfl
      · intro b o e
        have nb : b ≠ D := ne_of_none e hD
        rw [upd_ne nb]
        exact q3 _ _ (q2 _ _ e)
    · rintro H' ⟨q1, q2⟩
      rw [List.take_of_length_le (by omega)] at q1
      have ej : PySem.Txt.join (Str.ofString " ") ((wrs ts).map S) = S (TL.joinL [32] (wrs ts)) := by rw [e32, SX.join_S]
      have cs : (Str.ofString " ").length = 1 := by decide +kernel
      refine ⟨_, D, (wrs ts).map S, rfl, rfl, .inl (SqL.of (by rw [List.map_map]; exact q1)), ?_, ?_⟩
      · rw [sum_S, List.length_map, cs]
        omega
      · refine ⟨_, _, rfl, rfl, ?_, _, _, rfl, rfl, ?_, ?_⟩
        · rw [ej, e40, S_len, S_len]
          show 1 + _ ≤ _
          omega
        · rw [ej, e40, e41, S_app, S_len, S_len, List.length_append]
          show 1 + _ + 1 ≤ _
          omega
        · rw [ej, e40, e41, S_app, S_app]
          exact k H' q2
theorem writ_none : FnOk P w K mg base CX0 0 (ad .Writ) (dd .Writ) ["_law_tree"] (spWrit 0) := by
  have no : ∀ vs H Q E, ¬ spWrit 0 vs H Q E := fun vs H Q E h => by
    obtain ⟨x, t, _, _, _, h1, _⟩ := h
    have := dp_pos t
    omega
  exact ⟨fun vs H Q E h => absurd h (no vs H Q E), fun A outer s H args us vs Q E _ _ _ _ h => absurd h (no vs H Q E)⟩
theorem ok_writ (T : Txt K mg ad dd) : ∀ N : Nat, FnOk P w K mg base CX0 N (ad .Writ) (dd .Writ) ["_law_tree"] (spWrit N)
  | 0 => writ_none
  | N + 1 => writ_step T (ok_writ T N)
end
end TK
namespace TK
open PySem L2
/-! ### sep.join(reversed(a list)) -/
section
open PySem PySem.Spec PyProof.Rows
variable {prog : Program} {w : World} {A : Around} {E : Value → Shared → Prop} {s : Shared}
theorem join_rev {sep : Str} {tk0 : Tok} {ri li : Addr} {xs : Array Value} {zs : List Str} {Q : Value → Shared → Prop} (hn : A.handled = none)
    (h1 : s.heap.IsRevIter ri li ((xs.size : Int) - 1)) (h2 : s.heap.IsList li xs) (h3 : li ≠ ri) (h4 : xs.size ≤ sizeLine)
    (h5 : ∀ got : Array Value, ItemsOf (fun i v => xs[xs.size - 1 - i]? = some v) got xs.size → StrsAre got.toList zs)
    (h6 : (zs.map (·.length)).sum + zs.length * sep.length ≤ 16777216)
    (h7 : ∀ (g : Heap) (t1 : Tok) (k1 : Nat), (∀ b o, b ≠ ri → s.heap.get? b = some o → g.get? b = some o) → Q (.str (Txt.join sep zs) t1) { s with heap := g, toks := k1 }) :
    wpAny (model prog w) A (call (.builtin "str.join") [.str sep tk0, .ref ri]) Q E s := by
  have ck := F.slot_str_join.check
  refine wpAny_call (codeAny_call_builtin F.slot_str_join.plain F.entry_str_join
    (ck _ _ _ _ _ _ _ _ (typeIs_str _ _ _) (F.args_str_join_2 _ _) ?_))
  rw [join_tree_other]
  refine wpAny_bind (wpAny_typeOf h1.typeIs ?_)
  show wpAny _ A.in1 ((pyIter (.ref ri)).tryCatch _ >>= fun u => collect u >>= fun us => joinTail sep us) _ _ s
  refine wpAny_bind (wpAny_tryCatch (wpAny_pyIter_revIter h1 ?_))
  refine wpAny_bind (RT.collect_rev (A := A.in1) hn h1 h2 h3 h4 fun g k1 got kp hi => ?_)
  obtain ⟨l, hl, ht⟩ := strsAre_values (h5 got hi)
  subst ht
  rw [hl]
  have fine := joinOk_of h6
  unfold JoinOk at fine
  rw [Bool.not_eq_true'] at fine
  have gv : Gives (joinTail sep (strValues l)) (joinMade sep l) := by
    have g0 : Gives (joinTail sep (strValues l)) _ := gives_joinTail sep l fine
    rcases l with _ | ⟨p, _ | ⟨q, r⟩⟩
    · exact g0
    · exact g0
    · exact g0
  exact gv prog w A (wants Q E) _ (post_join l ⟨joinFit_length fine, fun t1 k => h7 g t1 k kp⟩)
end
def tJoinRev (K : PySem.W.Frag) (to te : TE) : TE := fun σ H Q => to σ H fun x H1 => (∃ a, x = .str a) ∧ te σ H1 fun v H2 => ∃ (a : Str) (p : Addr) (zs : List Str), x = .str a ∧ v = .ref p ∧ SqL K H2 p (zs.map V.str) ∧ (zs.map (·.length)).sum + zs.length * a.length ≤ 16777216 ∧ Q (.str (PySem.Txt.join a zs.reverse)) H2
section
open PySem PySem.Spec PyProof.Rows
variable {X : Cx}
theorem pe_joinRev {o e : Expr} {to te : TE} {apos p2 pos pos2 : Pos} (hc : X.calm = true) (ho : PE X o to) (hg : Gl X "reversed") (hm : X.mg "reversed" = none) (he : PE X e te)
    (hs : starEach [e] X.env = (false, eval e X.env) :: starEach [] X.env := by rfl)
    (hs2 : starEach [.Call (.Name "reversed" p2) [e] [] pos2] X.env = [(false, eval (.Call (.Name "reversed" p2) [e] [] pos2) X.env)] := by rfl)
    (hb : attributeBase o "join" X.env (eval o X.env) = eval o X.env := by rfl) (hl : (apos.endLine == pos.line) = true := by rfl) :
    PE X (.Call (.Attribute o "join" apos) [.Call (.Name "reversed" p2) [e] [] pos2] [] pos) (tJoinRev X.K to te) := by
  refine ⟨fun pins s σ H Q I h => ?_⟩
  refine PySem.Call_method1 hb hs2 hl (thn (ho.run pins s σ H _ I h) fun v s1 ⟨x, H1, I1, r1, q1⟩ => ?_)
  obtain ⟨⟨a, rfl⟩, q1⟩ := q1
  obtain ⟨t, rfl⟩ := _root_.id r1
  refine ⟨"str", _, F.plainAttrs_str, F.slot_str_join, F.type_str_join, typeIs_str _ _ _, (fun _ e => nomatch e), Calls.callWith_builtin rfl (Calls.evalArgs_plain (Calls.spliced_cons ?_))⟩
  refine Call_ (ld_blt I1 hg hm PyProof.Rows.boot_reversed (PyProof.Rows.callWith_type1 (args_cons (thn (he.run pins s1 σ H1 _ I1 q1) fun u s2 ⟨y, H2, I2, r2, q2⟩ => args_nil ?_) hs) hs rfl))
  obtain ⟨a', p, zs, ea, ev, hq, hz, q⟩ := q2
  subst ev
  obtain rfl : u = Value.ref p := r2
  cases ea
  obtain ⟨its, rv, p', hzl⟩ := I2.list hq
  have hil := p'.isList
  obtain ⟨ol, hol, _⟩ := _root_.id hil
  have hpl := Heap.lt_size hol
  refine call_reversed_list hil ?_
  have k0 : ∀ b o, s2.heap.get? b = some o → (s2.heap.push (revObj p ((its.toArray.size : Int) - 1))).get? b = some o := fun b o e => Heap.get?_push_of_some _ e
  have I3 : Inv X pins σ H2 { s2 with heap := s2.heap.push (revObj p ((its.toArray.size : Int) - 1)) } := I2.kept (t' := s2.toks) k0
  obtain ⟨f0, f1, f2, f3, f4, f5⟩ := I2.fpOk (H' := H2) (b := s2.heap.objs.size) (Nat.le_refl _) (I2.hok.fresh (Nat.le_refl _))
  refine Calls.spliced_nil ?_
  refine join_rev (s := { s2 with heap := s2.heap.push (revObj p ((its.toArray.size : Int) - 1)) }) (I2.ok.hd hc) ⟨_, Heap.get?_push_size _ rfl, rfl, rfl⟩ (hil.push _) (Nat.ne_of_lt hpl) (by rw [List.size_toArray, ← rv.length]; exact hzl)
    (zs := zs.reverse) (fun got hi => strs_of_vals (by rw [List.map_reverse]; exact RT.vals_rev rv hi)) (by rw [List.map_reverse, List.sum_reverse, List.length_reverse]; exact hz) fun g t1 k1 kp => ?_
  exact ⟨.str _, H2, I3.turned (t' := k1) (fun b o hb e => kp b o hb e) f0 f1 f3 f4 f5, ⟨t1, rfl⟩, q⟩
end
end TK
namespace TK
open PySem L2
/-! ### digits in pieces -/
/-- just k digits -/
def dig : Nat → Nat → List Nat
  | 0, _ => []
  | k + 1, m => dig k (m / 10) ++ [48 + m % 10]
theorem dig_len : ∀ k m : Nat, (dig k m).length = k
  | 0, _ => rfl
  | k + 1, m => by
    show (dig k (m / 10) ++ [48 + m % 10]).length = k + 1
    rw [List.length_append, dig_len k (m / 10)]; rfl
theorem numL_split : ∀ k n : Nat, 10 ^ k ≤ n → TL.numL n = TL.numL (n / 10 ^ k) ++ dig k (n % 10 ^ k)
  | 0, n, _ => by
    show TL.numL n = TL.numL (n / 1) ++ []
    rw [Nat.div_one, List.append_nil]
  | k + 1, n, h => by
    have e : 10 ^ (k + 1) = 10 * 10 ^ k := by rw [Nat.pow_succ, Nat.mul_comm]
    have p : 0 < 10 ^ k := Nat.pow_pos (by decide)
    have h10 : 10 ≤ n := by
      rw [e] at h
      omega
    have hk : 10 ^ k ≤ n / 10 := by
      rw [e] at h
      omega
    have ih := numL_split k (n / 10) hk
    rw [TL.numL_step h10, ih, e, Nat.div_div_eq_div_mul]
    show _ = _ ++ (dig k (n % (10 * 10 ^ k) / 10) ++ [48 + n % (10 * 10 ^ k) % 10])
    rw [Nat.mod_mul_right_div_self, Nat.mod_mul_right_mod, List.append_assoc]
theorem dig_zero : ∀ k : Nat, dig k 0 = List.replicate k 48
  | 0 => rfl
  | k + 1 => by
    show dig k (0 / 10) ++ [48 + 0 % 10] = _
    rw [Nat.zero_div, dig_zero k, List.replicate_succ']
theorem dig_pad : ∀ k m : Nat, m < 10 ^ (k + 1) → dig (k + 1) m = List.replicate (k + 1 - (TL.numL m).length) 48 ++ TL.numL m
  | 0, m, h => by
    have h' : m < 10 := by simpa using h
    rw [TL.numL_lt h']
    show [] ++ [48 + m % 10] = List.replicate 0 48 ++ [48 + m]
    rw [Nat.mod_eq_of_lt h']; rfl
  | k + 1, m, h => by
    by_cases h' : m < 10
    · rw [TL.numL_lt h']
      show dig (k + 1) (m / 10) ++ [48 + m % 10] = List.replicate (k + 1) 48 ++ [48 + m]
      rw [Nat.mod_eq_of_lt h', Nat.div_eq_of_lt h', dig_zero]
    · have e : 10 ^ (k + 1 + 1) = 10 * 10 ^ (k + 1) := by rw [Nat.pow_succ, Nat.mul_comm]
      have ih := dig_pad k (m / 10) (by rw [e] at h; omega)
      rw [TL.numL_step (by omega)]
      show dig (k + 1) (m / 10) ++ [48 + m % 10] = _
      rw [ih, List.length_append, List.length_singleton, List.append_assoc]
      congr 1
      congr 1
      omega
theorem zfill_dig {m : Nat} (h : m < 10 ^ 64) : PySem.Txt.zfill (Str.ofString (toString ((m : Nat) : Int))) 64 = S (dig 64 m) := by
  have e : Str.ofString (toString ((m : Nat) : Int)) = S (TL.numL m) := SX.num_S m
  have hl := TL.numL_len (n := m) (k := 64) (by decide) h
  rw [e, dig_pad 63 m h]
  unfold PySem.Txt.zfill
  rw [S_len]
  by_cases c : (64 : Int) ≤ ((TL.numL m).length : Nat)
  · rw [if_pos c, show 63 + 1 - (TL.numL m).length = 0 by omega]; rfl
  · rw [if_neg c]
    cases q : TL.numL m with
    | nil => exact absurd q (TL.numL_ne m)
    | cons a r =>
      have ha := TL.numL_digits m a (by rw [q]; exact List.mem_cons_self)
      have z : PySem.zfilled (S (a :: r)) ((64 : Int).toNat - (a :: r).length) = PySem.Builtin.Str.padded (S (a :: r)) ((64 : Int).toNat - (a :: r).length) 0 48 := by
        unfold PySem.zfilled
        have e0 : (S (a :: r)).cps[0]? = some a := by simp
        rw [e0]
        split
        · rename_i w
          cases w
          omega
        · rename_i w
          cases w
          omega
        · rfl
      rw [z]
      unfold PySem.Builtin.Str.padded
      apply TL.ext_tl
      show (Array.replicate _ 48 ++ (a :: r).toArray ++ Array.replicate 0 48).toList = (List.replicate _ 48 ++ a :: r)
      simp
end TK
namespace TK
open PySem L2
theorem intL_split (i : Int) : intL i = (if i < 0 then [45] else []) ++ TL.numL i.natAbs := by
  cases i with
  | ofNat n =>
    show intL ((n : Nat) : Int) = (if ((n : Nat) : Int) < 0 then [45] else []) ++ TL.numL n
    rw [if_neg (by omega)]
    exact intL_nat n
  | negSucc m =>
    rw [if_pos (by omega)]
    exact intL_neg m
def spDig : Sp := fun vs H Q _ => ∃ i : Int, vs = [.int i] ∧ i.natAbs < 10 ^ 100 ∧ ∀ H' : Hp, Same H H' → Q (.str (S (intL i))) H'
theorem join_nil : ∀ ls : List (List Nat), TL.joinL [] ls = ls.flatten
  | [] => rfl
  | [p] => by
    show p = p ++ []
    rw [List.append_nil]
  | p :: q :: r => by
    show p ++ ([] ++ TL.joinL [] (q :: r)) = p ++ (q :: r).flatten
    rw [join_nil (q :: r), List.nil_append]
theorem join_flat (ls : List (List Nat)) : PySem.Txt.join (Str.ofString "") (ls.map S) = S ls.flatten := by
  rw [e0, SX.join_S, join_nil]
section
variable {P : Program} {w : World} {K : PySem.W.Frag} {mg : Str → Option Value} {base : Heap} {ad : Nm → Addr} {dd : Nm → FuncData}
theorem scDig : FnScope ["n", "pieces", "rest", "low"] ["n"] (defScope sDig) := ⟨rfl, rfl, rfl, by decide +kernel, rfl, by decide +kernel, by decide +kernel⟩
theorem ok_dig (T : Txt K mg ad dd) : FnOk P w K mg base CX0 1 (ad .Dig) (dd .Dig) ["n"] spDig := by
  refine T.Dig.F.ok scDig (fun vs H Q E h => ?_) (fun cdv A outer s H vs Q E hr h => ?_)
  · obtain ⟨i, rfl, _⟩ := h
    rfl
  obtain ⟨i, rfl, hi, k⟩ := h
  have hz : sizeLine = 16777216 := sizeLine_eq
  have nl := TL.numL_len (n := i.natAbs) (k := 100) (by decide) hi
  refine ⟨_, (pss_cons (ps_set (i := 1) scDig.nd rfl (Or.inl rfl) (pe_lst pa_nil))
      (pss_cons (ps_set (i := 2) scDig.nd rfl (Or.inl rfl) (pe_callB call_abs (by rfl) T.n_abs bt_abs (pa_cons (pv 0) pa_nil)))
      (pss_cons (ps_while PassesOwn.never (pt_cmpR op_ge (pv 2) (pe_gint rfl T.gPIECE) (nomark _)) (pss_cons (ps_asg (pe_callB call_divmodW (by rfl) T.n_divmod bt_divmod (pa_cons (pv 2) (pa_cons (pe_gint rfl T.gPIECE) pa_nil))) (pg_tup rfl (pgs_cons (pg_name (i := 2) scDig.nd rfl (Or.inl rfl)) (pgs_cons (pg_name (i := 3) scDig.nd rfl (Or.inl rfl)) pgs_nil))))
      (pss_one (ps_expr (pe_bm PySem.F.plainAttrs_list PySem.F.slot_list_append PySem.F.type_list_append mt_append (pv 1) (pa_cons (pe_bm PySem.F.plainAttrs_str PySem.F.slot_str_zfill PySem.F.type_str_zfill mt_zfill (pe_callTy call_str_int (by rfl) T.n_str bt_str (pa_cons (pv 3) pa_nil)) (pa_cons (pe_gint rfl T.gPIECE_DIGITS) pa_nil)) pa_nil))))))
      (pss_cons (ps_expr (pe_bm PySem.F.plainAttrs_list PySem.F.slot_list_append PySem.F.type_list_append mt_append (pv 1) (pa_cons (pe_callTy call_str_int (by rfl) T.n_str bt_str (pa_cons (pv 2) pa_nil)) pa_nil)))
      (pss_cons (ps_if (pt_cmpR op_lt (pv 0) pe_int (nomark _)) (pss_one (ps_expr (pe_bm PySem.F.plainAttrs_list PySem.F.slot_list_append PySem.F.type_list_append mt_append (pv 1) (pa_cons pe_str pa_nil)))) pss_nil)
      (pss_one (ps_ret (pe_joinRev rfl pe_str rfl T.n_reversed (pv 1))))))))), ?_⟩
  refine ⟨Nat.zero_le _, fun p hp => ?_⟩
  have s1 := same_new hp (.lst [])
  refine ⟨_, rfl, i, rfl, ?_⟩
  have ea : (if i < 0 then -i else i) = ((i.natAbs : Nat) : Int) := by
    split <;> omega
  rw [ea]
  refine while_by (fun σ H' => ∃ (r : Nat) (zs : List (List Nat)) (o : Option V), σ = [some (.int i), some (.ref p), some (.int (r : Int)), o] ∧ H' p = some (.lst (zs.map fun l => .str (S l))) ∧ TL.numL i.natAbs = TL.numL r ++ zs.reverse.flatten ∧ zs.length ≤ zs.reverse.flatten.length ∧ r < 10 ^ 100 ∧ ∀ b o, b ≠ p → (upd H p (.lst [])) b = some o → H' b = some o)
    (fun (σ : L2.St) (_ : Hp) => match σ[2]? with | some (some (V.int r)) => r.toNat | _ => 0) ⟨i.natAbs, [], none, rfl, upd_same, by simp, Nat.le_refl _, hi, fun _ _ _ e => e⟩ ?_ (fun σ H1 Q1 Q2 m ⟨v, e, a, b, x1, x2, c, x3, q⟩ => ⟨v, e, a, b, x1, x2, c, x3, m _ _ q⟩)
  rintro σ H1 ⟨r, zs, o, rfl, h1, h2, h3, h4, h5⟩
  have fl : (zs.reverse.flatten).length ≤ 100 := by
    have := congrArg List.length h2
    rw [List.length_append] at this
    omega
  refine ⟨_, rfl, _, _, rfl, rfl, _, rfl, ?_⟩
  refine ite2 (fun c => ?_) (fun c => ?_)
  · have c' : ((10 : Int) ^ 64) ≤ (r : Int) := of_decide_eq_true c
    have c2 : 10 ^ 64 ≤ r := by omega
    refine ⟨_, rfl, _, _, rfl, ⟨by decide, PyProof.noPylong_of_log2 (by decide)⟩, fun q hq => ?_⟩
    have sq := same_new hq (.tup [.int ((r : Int) / 10 ^ 64), .int ((r : Int) % 10 ^ 64)])
    have npq : p ≠ q := ne_of_none h1 hq
    refine ⟨q, _, rfl, SqT.of upd_same, rfl, _, _, rfl, _, _, rfl, rfl, ?_⟩
    have em : (r : Int) % 10 ^ 64 = ((r % 10 ^ 64 : Nat) : Int) := by omega
    have ed : (r : Int) / 10 ^ 64 = ((r / 10 ^ 64 : Nat) : Int) := by omega
    have lm : r % 10 ^ 64 < 10 ^ 64 := Nat.mod_lt _ (by decide)
    refine ⟨_, rfl, .inl ⟨rfl, _, .inl (.inl (sq _ _ h1))⟩, ⟨_, rfl, _, rfl, by rw [em]; exact bits_of (Nat.lt_trans (show ((r % 10 ^ 64 : Nat) : Int).natAbs < 10 ^ 64 by omega) (by decide)), rfl, _, _, rfl, rfl, by decide +kernel, p, _, _, rfl, rfl, sq _ _ h1, by rw [List.length_map]; omega, ?_⟩⟩
    refine ⟨⟨r / 10 ^ 64, zs ++ [dig 64 (r % 10 ^ 64)], some (.int ((r : Int) % 10 ^ 64)), by rw [← ed]; rfl, ?_, ?_, ?_, ?_, ?_⟩, ?_⟩
    · rw [upd_same, em, zfill_dig lm, List.map_append]; rfl
    · rw [h2, numL_split 64 r c2, List.reverse_append, List.append_assoc]; rfl
    · rw [List.reverse_append, List.length_append]
      show zs.length + 1 ≤ (dig 64 (r % 10 ^ 64) ++ zs.reverse.flatten).length
      rw [List.length_append, dig_len]
      omega
    · omega
    · intro b o1 hb e
      have nb : b ≠ p := hb
      rw [upd_ne nb]
      exact sq _ _ (h5 b o1 hb e)
    · show ((r : Int) / 10 ^ 64).toNat < (r : Int).toNat
      omega
  · refine ⟨_, rfl, .inl ⟨rfl, _, .inl (.inl h1)⟩, ⟨_, rfl, _, rfl, bits_of (by omega), p, _, _, rfl, rfl, h1, by rw [List.length_map]; omega, ?_⟩⟩
    have er : Str.ofString (toString ((r : Nat) : Int)) = S (TL.numL r) := SX.num_S r
    rw [er]
    have L1 : (upd H1 p (.lst (zs.map (fun l => V.str (S l)) ++ [.str (S (TL.numL r))]))) p = some (.lst ((zs ++ [TL.numL r]).map fun l => V.str (S l))) := by
      rw [upd_same, List.map_append]; rfl
    have S1 : Same H (upd H1 p (.lst (zs.map (fun l => V.str (S l)) ++ [.str (S (TL.numL r))]))) := fun b o1 e => by
      have nb : b ≠ p := ne_of_none e hp
      rw [upd_ne nb]
      exact h5 b o1 nb (s1 _ _ e)
    generalize upd H1 p (.lst (zs.map (fun l => V.str (S l)) ++ [.str (S (TL.numL r))])) = H2 at L1 S1
    have nr := congrArg List.length h2
    rw [List.length_append] at nr
    refine ⟨_, rfl, _, _, rfl, rfl, _, rfl, ?_⟩
    have fin : ∀ (ls : List (List Nat)) (H3 : Hp), H3 p = some (.lst (ls.map fun l => V.str (S l))) → Same H H3 → ls.length ≤ 102 → (ls.map (·.length)).sum ≤ 102 → ls.reverse.flatten = intL i →
        ∀ (o1 o2 : Option V), tRet (tJoinRev K (tC (.str (Str.ofString ""))) (tVar 1)) { nx := fun _ H' => Q .non H', rt := Q } [some (.int i), some (.ref p), o1, o2] H3 := by
      intro ls H3 g1 g2 g3 g4 g5 o1 o2
      have c0 : (Str.ofString "").length = 0 := by decide +kernel
      refine ⟨⟨_, rfl⟩, _, rfl, _, p, ls.map S, rfl, rfl, SqL.of (by rw [List.map_map]; exact g1), ?_, ?_⟩
      · rw [sum_S, List.length_map, c0]
        omega
      · rw [← List.map_reverse, join_flat, g5]
        exact k H3 g2
    have sumz : ∀ ls : List (List Nat), (ls.map (·.length)).sum = ls.reverse.flatten.length := by
      intro ls
      rw [List.length_flatten, List.map_reverse, List.sum_reverse]
    refine ite2 (fun c3 => ?_) (fun c3 => ?_)
    · have c4 : i < 0 := of_decide_eq_true c3
      refine ⟨_, rfl, .inl ⟨rfl, _, .inl (.inl L1)⟩, p, _, _, rfl, rfl, L1, by rw [List.length_map, List.length_append]; show zs.length + 1 < _; omega, ?_⟩
      have e45 : Str.ofString "-" = S [45] := by decide +kernel
      refine fin ((zs ++ [TL.numL r]) ++ [[45]]) _ (by rw [upd_same, e45, List.map_append (l₂ := [[45]])]; rfl) (fun b o1 e => by rw [upd_ne (ne_of_none e hp)]; exact S1 _ _ e) ?_ ?_ ?_ _ _
      · rw [List.length_append, List.length_append]
        show zs.length + 1 + 1 ≤ 102
        omega
      · rw [sumz, List.reverse_append, List.reverse_append]
        show ([45] ++ (TL.numL r ++ zs.reverse.flatten)).length ≤ 102
        rw [List.length_append, List.length_append]
        show 1 + _ ≤ _
        omega
      · rw [intL_split, if_pos c4, h2, List.reverse_append, List.reverse_append]; rfl
    · have c4 : ¬ i < 0 := of_decide_eq_false (Bool.eq_false_iff.mpr c3)
      refine fin (zs ++ [TL.numL r]) _ L1 S1 ?_ ?_ ?_ _ _
      · rw [List.length_append]
        show zs.length + 1 ≤ 102
        omega
      · rw [sumz, List.reverse_append]
        show (TL.numL r ++ zs.reverse.flatten).length ≤ 102
        rw [List.length_append]
        omega
      · rw [intL_split, if_neg c4, h2, List.reverse_append]; rfl
end
end TK
namespace TK
open PySem L2
theorem fun_okT {P : Program} {w : World} {K : PySem.W.Frag} {mg : Str → Option Value} {base : Heap} {x qual : Str} {st : Stmt} {f : Addr} {fd : FuncData} {N ps : List Str} {k : Nat} {sp : Sp} (F : Fun K x qual st f fd) (S : FnScope N ps (defScope st))
    (hnc : ∀ y ∈ (defScope st).names, y.2 ≠ .cell) (hps : 1 ≤ ps.length) (len : ∀ vs H Q E, sp vs H Q E → vs.length = ps.length)
    (hbody : ∀ (cdv : Value) (A : Around) (outer : List Env) (s : Shared) (H : Hp) (vs : List V) (Q : VK) (E : XK), Room k (A.deeper (PyProof.Rows.envOfC qual (defScope st) s.heap.objs.size f cdv)) → sp vs H Q E →
      ∃ t, PSsT (cxOf CX0 P w K mg base N qual (defScope st) f cdv A outer s H E) (defBody st) t ∧ t { nx := fun _ H' => Q .non H', rt := Q } (start N vs) H) : FnOk P w K mg base CX0 (k + 1) f fd ps sp := by
  obtain ⟨oc, od, kV, doc, pm, an, cdv, ct, osl, rfl, lk, hcd⟩ := F.ex
  exact fn_ofT lk hcd S hnc hps len fun A outer s H vs Q E hr hsp => hbody cdv A outer s H vs Q E hr hsp
def spLeaf : Sp := fun vs H Q _ => ∃ (x : V) (t : PyData), vs = [x] ∧ Tr H x t ∧ gd t = true ∧ (∀ ts, t ≠ .tuple ts) ∧ ∀ H' : Hp, Same H H' → Q (.str (S (wr t))) H'
section
variable {P : Program} {w : World} {K : PySem.W.Frag} {mg : Str → Option Value} {base : Heap} {ad : Nm → Addr} {dd : Nm → FuncData}
theorem scLeaf : FnScope ["leaf", "escaped"] ["leaf"] (defScope sLeaf) := ⟨rfl, rfl, rfl, by decide +kernel, rfl, by decide +kernel, by decide +kernel⟩
theorem ok_leaf (T : Txt K mg ad dd) : FnOk P w K mg base CX0 2 (ad .Leaf) (dd .Leaf) ["leaf"] spLeaf := by
  have GDig := ok_dig (P := P) (w := w) (base := base) T
  refine fun_okT T.Leaf.F scLeaf (by decide +kernel) (by decide) (fun vs H Q E h => ?_) (fun cdv A outer s H vs Q E hr h => ?_)
  · obtain ⟨x, t, rfl, _⟩ := h
    rfl
  obtain ⟨x, t, rfl, tr, g, nt, k⟩ := h
  have hz : sizeLine = 16777216 := sizeLine_eq
  refine ⟨_, psst_cons (PST.of (ps_if (pt_cmpR op_isN (pv 0) pe_non (nomark _)) (pss_one (ps_ret pe_str)) pss_nil))
    (psst_cons (PST.of (ps_if (pt_cmpR op_is_b (pv 0) pe_bl (nomark _)) (pss_one (ps_ret pe_str)) pss_nil))
    (psst_cons (PST.of (ps_if (pt_cmpR op_is_b (pv 0) pe_bl (nomark _)) (pss_one (ps_ret pe_str)) pss_nil))
    (psst_cons (CwR.pst_if (pt_val (pe_callB call_isi (by rfl) T.n_isinstance bt_isinstance (pa_cons (pv 0) (pa_cons (pe_bltn (v := .ty "str") rfl T.n_str bt_str rfl) pa_nil))) (fun _ => rfl))
        (psst_cons (pst_set (i := 1) scLeaf.nd rfl (Or.inl rfl) (CwR.pet_replT (CwR.pet_replC (pv 0)))) (PSsT.of (pss_one (ps_ret (pe_op op_add_str (pe_op op_add_str pe_str (pv 1)) pe_str))))) CwR.psst_nil)
    (PSsT.of (pss_one (ps_ret (pe_call GDig (hr.mono (by decide)) rfl T.Dig.m T.Dig.F.kp T.Dig.b .nil pass0 (pa_cons (pv 0) pa_nil)))))))), ?_⟩
  cases tr with
  | non =>
    exact ⟨_, rfl, rfl, _, rfl, k H (Same.refl H)⟩
  | bl b =>
    refine ⟨_, rfl, rfl, _, rfl, _, rfl, _, rfl, .inl ⟨b, rfl, _, rfl, ?_⟩⟩
    cases b with
    | true => exact k H (Same.refl H)
    | false => exact ⟨_, rfl, _, rfl, .inl ⟨false, rfl, _, rfl, k H (Same.refl H)⟩⟩
  | int i =>
    refine ⟨_, rfl, rfl, _, rfl, _, rfl, _, rfl, .inr ⟨.inl ⟨i, rfl⟩, _, rfl, _, rfl, _, rfl, .inr ⟨.inl ⟨i, rfl⟩, _, rfl, ?_⟩⟩⟩
    refine ⟨_, rfl, _, _, _, _, false, rfl, .ty _, .base (.int i), k_is_, _, rfl, ?_⟩
    exact ⟨_, rfl, i, rfl, of_decide_eq_true g, fun H' q => k H' q⟩
  | str z =>
    refine ⟨_, rfl, rfl, _, rfl, _, rfl, _, rfl, .inr ⟨.inr (.inl ⟨z, rfl⟩), _, rfl, _, rfl, _, rfl, .inr ⟨.inr (.inl ⟨z, rfl⟩), _, rfl, ?_⟩⟩⟩
    refine ⟨_, rfl, _, _, _, _, true, rfl, .ty _, .base (.str z), k_ss, _, rfl, ?_⟩
    have g' : (z.cps.toList.all plainC && decide (z.length ≤ 12)) = true := g
    rw [Bool.and_eq_true] at g'
    have zl := of_decide_eq_true g'.2
    have l1 := TK.replace_len z (Str.ofString "\\") (Str.ofString "\\\\")
    have c2 : (Str.ofString "\\\\").length = 2 := by decide +kernel
    have c3 : (Str.ofString "\\\"").length = 2 := by decide +kernel
    have l2 := esc_len z.cps.toList
    have l3 : z.length = z.cps.toList.length := Array.length_toList.symm
    rw [c2] at l1
    refine ⟨_, rfl, z, rfl, by rw [c2]; omega, _, rfl, by rw [c3]; omega, ?_⟩
    refine ⟨_, rfl, _, _, rfl, rfl, by rw [esc_str, e34, S_len, S_len]; show 1 + _ ≤ _; omega, _, _, rfl, rfl, ?_, ?_⟩
    · rw [esc_str, e34, S_app, S_len, S_len, List.length_append]
      show 1 + _ + 1 ≤ _
      omega
    · rw [esc_str, e34, S_app, S_app]
      exact k H (Same.refl H)
  | tup h1 h2 => exact absurd rfl (nt _)
end
end TK
namespace TK
open PySem L2
/-! ### what waits, the next one first -/
inductive Ent where
  | node (t : PyData)
  | txt (l : List Nat)
def rnd : Ent → List Nat
  | .node t => wr t
  | .txt l => l
def rend (es : List Ent) : List Nat := (es.map rnd).flatten
def wt1 : Ent → Nat
  | .node t => 3 * pts t - 1
  | .txt _ => 1
def wt : List Ent → Nat
  | [] => 0
  | e :: r => wt1 e + wt r
theorem wt_app : ∀ a b : List Ent, wt (a ++ b) = wt a + wt b
  | [], b => (Nat.zero_add _).symm
  | e :: r, b => by
    show wt1 e + wt (r ++ b) = wt1 e + wt r + wt b
    rw [wt_app r b]; omega
theorem wt1_pos : ∀ e : Ent, 1 ≤ wt1 e
  | .node t => by
    have := pts_pos t
    show 1 ≤ 3 * pts t - 1
    omega
  | .txt _ => Nat.le_refl _
theorem len_wt : ∀ es : List Ent, es.length ≤ wt es
  | [] => Nat.le_refl _
  | e :: r => by
    have := len_wt r
    have := wt1_pos e
    show r.length + 1 ≤ wt1 e + wt r
    omega
/-- what is put on for the parts of a tuple; the flag: the first of these is its first part -/
def pf : Bool → List PyData → List Ent
  | _, [] => []
  | b, t :: us => (if b then [] else [.txt [32]]) ++ (.node t :: pf false us)
theorem wt_pf : ∀ (b : Bool) (us : List PyData), wt (pf b us) ≤ 3 * ptss us
  | _, [] => Nat.zero_le _
  | b, t :: us => by
    have ih := wt_pf false us
    have := pts_pos t
    show wt ((if b then [] else [.txt [32]]) ++ (.node t :: pf false us)) ≤ 3 * (pts t + ptss us)
    rw [wt_app]
    have e : wt (if b then [] else [.txt [32]]) ≤ 1 := by cases b <;> decide
    have e2 : wt (.node t :: pf false us) = (3 * pts t - 1) + wt (pf false us) := rfl
    omega
theorem rend_app (a b : List Ent) : rend (a ++ b) = rend a ++ rend b := by
  unfold rend
  rw [List.map_append, List.flatten_append]
theorem rend_pf_f : ∀ us : List PyData, rend (pf false us) = (us.map fun t => [32] ++ wr t).flatten
  | [] => rfl
  | t :: us => by
    have ih := rend_pf_f us
    show [32] ++ (wr t ++ rend (pf false us)) = _
    rw [ih, List.map_cons, List.flatten_cons, List.append_assoc]
theorem rend_pf_t : ∀ us : List PyData, rend (pf true us) = TL.joinL [32] (wrs us)
  | [] => rfl
  | [t] => by
    show wr t ++ [] = wr t
    rw [List.append_nil]
  | t :: u :: us => by
    have ih := rend_pf_t (u :: us)
    show wr t ++ rend (pf false (u :: us)) = wr t ++ ([32] ++ TL.joinL [32] (wrs (u :: us)))
    rw [← ih]
    rfl
set_option linter.unusedVariables false
def EntAt (H : Hp) (v : V) (e : Ent) : Prop := ∃ a : Addr, v = .ref a ∧ match e with
  | .node t => ∃ x : V, H a = some (.tup [x, .bl false]) ∧ Tr H x t ∧ gd t = true
  | .txt l => H a = some (.tup [.str (S l), .bl true])
theorem EntAt.keep {H H' : Hp} (s : Tups H H') {v : V} : ∀ {e : Ent}, EntAt H v e → EntAt H' v e
  | .node t, ⟨a, h1, x, h2, h3, h4⟩ => ⟨a, h1, x, s _ _ h2, Tr.keep s _ _ h3, h4⟩
  | .txt l, ⟨a, h1, h2⟩ => ⟨a, h1, s _ _ h2⟩
theorem ents_keep {H H' : Hp} (s : Tups H H') : ∀ {vs : List V} {es : List Ent}, Paired (EntAt H) vs es → Paired (EntAt H') vs es
  | _, _, .nil => .nil
  | _, _, .cons h t => .cons (h.keep s) (ents_keep s t)
theorem ents_len {H : Hp} {vs : List V} {es : List Ent} (h : Paired (EntAt H) vs es) : vs.length = es.length := Paired.length h
theorem tups_lst {H : Hp} {p : Addr} {xs : List V} {o : HO} (h : H p = some (.lst xs)) : Tups H (upd H p o) := fun a ys e => by
  rw [upd_ne (ne_of e h (by intro z; cases z))]
  exact e
theorem len_ptss : ∀ ts : List PyData, ts.length ≤ ptss ts
  | [] => Nat.le_refl _
  | t :: ts => by
    have h1 := len_ptss ts
    have h2 := pts_pos t
    show ts.length + 1 ≤ pts t + ptss ts
    omega
theorem ptss_drop : ∀ (n : Nat) (ts : List PyData), ptss (ts.drop n) ≤ ptss ts
  | 0, ts => by rw [List.drop_zero]; exact Nat.le_refl _
  | n + 1, [] => by rw [List.drop_nil]; exact Nat.le_refl _
  | n + 1, t :: ts => by
    rw [List.drop_succ_cons]
    exact Nat.le_trans (ptss_drop n ts) (Nat.le_add_left _ _)
theorem last_app {α : Type} (l : List α) (v : α) : (l ++ [v])[(l ++ [v]).length - 1]? = some v := by simp
theorem leaf_kit {K : PySem.W.Frag} : ∀ {u : PyData}, (∀ ts, u ≠ .tuple ts) → PySem.W.kitOne K (.type (nm u)) (.type "tuple") = some false
  | .none, _ => k_nt
  | .bool _, _ => k_bt
  | .int _, _ => k_it
  | .str _, _ => k_st
  | .tuple ts, h => absurd rfl (h ts)
  | .list _, _ => kit_ty (show kitB "list" "tuple" = some false by decide +kernel)
  | .dict _, _ => kit_ty (show kitB "dict" "tuple" = some false by decide +kernel)
/-- the text of a tree -/
def spWT : Sp := fun vs H Q _ => ∃ (x : V) (t : PyData), vs = [x] ∧ Tr H x t ∧ gd t = true ∧ pts t ≤ 2000 ∧ ∀ H' : Hp, Same H H' → Q (.str (S (wr t))) H'
/-- behind some turns: the pieces ps, what waits es -/
def WInv (H H' : Hp) (p q : Addr) (t : PyData) (m : Nat) : Prop := ∃ (ps : List (List Nat)) (vs : List V) (es : List Ent), H' p = some (.lst (ps.map fun l => .str (S l))) ∧ H' q = some (.lst vs.reverse) ∧ Paired (EntAt H') vs es ∧
  ps.flatten ++ rend es = wr t ∧ m = wt es ∧ ps.length + m ≤ 3 * pts t ∧ Same H H'
section
variable {P : Program} {w : World} {K : PySem.W.Frag} {mg : Str → Option Value} {base : Heap} {ad : Nm → Addr} {dd : Nm → FuncData}
theorem scWT : FnScope ["tree", "pieces", "waiting", "part", "ready", "k"] ["tree"] (defScope sWT) := ⟨rfl, rfl, rfl, by decide +kernel, rfl, by decide +kernel, by decide +kernel⟩
theorem ok_wt (T : Txt K mg ad dd) : FnOk P w K mg base CX0 3 (ad .WT) (dd .WT) ["tree"] spWT := by
  have GLeaf := ok_leaf (P := P) (w := w) (base := base) T
  refine T.WT.F.ok scWT (fun vs H Q E h => ?_) (fun cdv A outer s H vs Q E hr h => ?_)
  · obtain ⟨x, t, rfl, _⟩ := h
    rfl
  obtain ⟨x, t, rfl, tr, g, hp, k⟩ := h
  have hz : sizeLine = 16777216 := sizeLine_eq
  refine ⟨_, (pss_cons (ps_set (i := 1) scWT.nd rfl (Or.inl rfl) (pe_lst pa_nil))
      (pss_cons (ps_set (i := 2) scWT.nd rfl (Or.inl rfl) (pe_lst (pa_cons (pe_tup (pa_cons (pv 0) (pa_cons pe_bl pa_nil))) pa_nil)))
      (pss_cons (ps_while PassesOwn.never (pt_truth (pv 2) (fun _ => rfl)) (pss_cons (ps_asg (pe_bm0 PySem.F.plainAttrs_list PySem.F.slot_list_pop PySem.F.type_list_pop mt_pop (pv 2)) (pg_tup rfl (pgs_cons (pg_name (i := 3) scWT.nd rfl (Or.inl rfl)) (pgs_cons (pg_name (i := 4) scWT.nd rfl (Or.inl rfl)) pgs_nil))))
      (pss_one (ps_if (pt_truth (pv 4) (fun _ => rfl)) (pss_one (ps_expr (pe_bm PySem.F.plainAttrs_list PySem.F.slot_list_append PySem.F.type_list_append mt_append (pv 1) (pa_cons (pv 3) pa_nil)))) (pss_one (ps_if (pt_val (pe_callB call_isi (by rfl) T.n_isinstance bt_isinstance (pa_cons (pv 3) (pa_cons (pe_bltn (v := .ty "tuple") rfl T.n_tuple bt_tuple rfl) pa_nil))) (fun _ => rfl)) (pss_cons (ps_expr (pe_bm PySem.F.plainAttrs_list PySem.F.slot_list_append PySem.F.type_list_append mt_append (pv 1) (pa_cons pe_str pa_nil)))
      (pss_cons (ps_expr (pe_bm PySem.F.plainAttrs_list PySem.F.slot_list_append PySem.F.type_list_append mt_append (pv 2) (pa_cons (pe_tup (pa_cons pe_str (pa_cons pe_bl pa_nil))) pa_nil)))
      (pss_one (ps_for PassesOwn.never rfl (pi_range3 rfl T.n_range (pa_cons (pe_op op_sub (pe_callB call_len_seq (by rfl) T.n_len bt_len (pa_cons (pv 3) pa_nil)) pe_int) (pa_cons (pe_un un_neg pe_int) (pa_cons (pe_un un_neg pe_int) pa_nil)))) (pg_name (i := 5) scWT.nd rfl (Or.inl rfl)) (pss_cons (ps_expr (pe_bm PySem.F.plainAttrs_list PySem.F.slot_list_append PySem.F.type_list_append mt_append (pv 2) (pa_cons (pe_tup (pa_cons (pe_ix ix_tup (pv 3) (pv 5) (fun _ _ => rfl)) (pa_cons pe_bl pa_nil))) pa_nil)))
      (pss_one (ps_if (pt_cmpR op_gt (pv 5) pe_int (nomark _)) (pss_one (ps_expr (pe_bm PySem.F.plainAttrs_list PySem.F.slot_list_append PySem.F.type_list_append mt_append (pv 2) (pa_cons (pe_tup (pa_cons pe_str (pa_cons pe_bl pa_nil))) pa_nil)))) pss_nil))))))) (pss_one (ps_expr (pe_bm PySem.F.plainAttrs_list PySem.F.slot_list_append PySem.F.type_list_append mt_append (pv 1) (pa_cons (pe_call GLeaf (hr.mono (by first | decide | omega)) rfl T.Leaf.m T.Leaf.F.kp T.Leaf.b .nil pass0 (pa_cons (pv 3) pa_nil)) pa_nil))))))))))
      (pss_one (ps_ret (pe_join pe_str (pv 1))))))), ?_⟩
  refine ⟨Nat.zero_le _, fun p hp0 => ?_⟩
  have s1 := same_new hp0 (.lst [])
  have P1 : (upd H p (.lst [])) p = some (.lst []) := upd_same
  generalize upd H p (.lst []) = H1 at s1 P1
  refine ⟨_, rfl, (by show 2 ≤ sizeLine; decide), fun a ha => ?_⟩
  have s2 := same_new ha (.tup [x, .bl false])
  have A1 : (upd H1 a (.tup [x, .bl false])) a = some (.tup [x, .bl false]) := upd_same
  generalize upd H1 a (.tup [x, .bl false]) = H2 at s2 A1
  refine ⟨(by show 1 ≤ sizeLine; decide), fun q hq => ?_⟩
  have s3 := same_new hq (.lst [.ref a])
  have Q1 : (upd H2 q (.lst [.ref a])) q = some (.lst [.ref a]) := upd_same
  generalize upd H2 q (.lst [.ref a]) = H3 at s3 Q1
  have P3 := s3 _ _ (s2 _ _ P1)
  have npq : p ≠ q := ne_of_none (s2 _ _ P1) hq
  have hpH : H p = none := hp0
  have hqH : H q = none := (s1.trans s2).free hq
  have st : WInv H H3 p q t (3 * pts t - 1) := by
    have := pts_pos t
    exact ⟨[], [.ref a], [.node t], P3, Q1, .cons ⟨a, rfl, x, s3 _ _ A1, Tr.keep (Tups.of_same ((s1.trans s2).trans s3)) _ _ tr, g⟩ .nil, by show wr t ++ [] = wr t; rw [List.append_nil], rfl, by show 0 + (3 * pts t - 1) ≤ _; omega, (s1.trans s2).trans s3⟩
  refine ⟨fun m σ H' => (∃ o3 o4 o5 : Option V, σ = [some x, some (.ref p), some (.ref q), o3, o4, o5]) ∧ WInv H H' p q t m, ⟨_, ⟨none, none, none, rfl⟩, st⟩, ?_⟩
  rintro m σ H' ⟨⟨o3, o4, o5, rfl⟩, ps, vs, es, h1, h2, h3, h4, rfl, h5, h6⟩
  have psl : ps.length ≤ 6000 := by omega
  cases h3 with
  | nil =>
    refine ⟨_, rfl, false, .inl ⟨_, SqL.of h2, rfl⟩, ?_⟩
    have c0 : (Str.ofString "").length = 0 := by decide +kernel
    have e4 : ps.flatten = wr t := by
      have := h4
      rw [show rend [] = [] from rfl, List.append_nil] at this
      exact this
    refine ⟨⟨_, rfl⟩, _, rfl, _, p, ps.map S, rfl, rfl, .inl (SqL.of (by rw [List.map_map]; exact h1)), ?_, ?_⟩
    · rw [sum_S, List.length_map, c0, ← List.length_flatten, e4]
      have := wr_len t g
      omega
    · rw [join_flat, e4]
      exact k H' h6
  | @cons v e vs es hv hr =>
    rw [List.reverse_cons] at h2
    refine ⟨_, rfl, true, .inl ⟨_, SqL.of h2, by simp⟩, ?_⟩
    refine ⟨fun σ' H'' => ∃ m', m' < wt (e :: es) ∧ (∃ o3 o4 o5 : Option V, σ' = [some x, some (.ref p), some (.ref q), o3, o4, o5]) ∧ WInv H H'' p q t m', fun _ _ z => z, ?_⟩
    refine ⟨_, rfl, .inl ⟨rfl, _, .inl (.inl h2)⟩, q, _, v, rfl, rfl, h2, last_app _ _, ?_⟩
    have tk := tups_lst (o := .lst (vs.reverse ++ [v]).dropLast) h2
    have b1 : ∀ b o, b ≠ q → H' b = some o → (upd H' q (.lst (vs.reverse ++ [v]).dropLast)) b = some o := fun b o n z => by rw [upd_ne n]; exact z
    have Q4 : (upd H' q (.lst (vs.reverse ++ [v]).dropLast)) q = some (.lst vs.reverse) := by rw [upd_same, List.dropLast_concat]
    generalize upd H' q (.lst (vs.reverse ++ [v]).dropLast) = H4 at tk b1 Q4
    have P4 := b1 _ _ npq h1
    have S4 : Same H H4 := fun b o z => b1 _ _ (ne_of_none z hqH) (h6 _ _ z)
    have hv4 := EntAt.keep tk hv
    have hr4 := ents_keep tk hr
    have ewt : wt (e :: es) = wt1 e + wt es := rfl
    have evs := ents_len hr4
    have ewl := len_wt es
    cases e with
    | txt l =>
      obtain ⟨a1, rfl, ha1⟩ := hv4
      refine ⟨a1, _, rfl, SqT.of ha1, rfl, _, _, rfl, _, _, rfl, rfl, ?_⟩
      refine ⟨_, rfl, true, rfl, ?_⟩
      refine ⟨_, rfl, .inl ⟨rfl, _, .inl (.inl P4)⟩, _, rfl, p, _, _, rfl, rfl, P4, by rw [List.length_map]; omega, ?_⟩
      have t5 := tups_lst (o := .lst (ps.map (fun l => V.str (S l)) ++ [.str (S l)])) P4
      refine ⟨wt es, by rw [ewt]; show _ < 1 + _; omega, ⟨_, _, _, rfl⟩, ps ++ [l], vs, es, by rw [upd_same, List.map_append]; rfl, by rw [upd_ne npq.symm]; exact Q4, ents_keep t5 hr4, ?_, rfl, ?_, fun b o z => by rw [upd_ne (ne_of_none z hpH)]; exact S4 _ _ z⟩
      · rw [← h4, List.flatten_append, List.append_assoc]
        show ps.flatten ++ ((l ++ []) ++ rend es) = ps.flatten ++ (l ++ rend es)
        rw [List.append_nil]
      · rw [List.length_append]
        show ps.length + 1 + wt es ≤ _
        have : wt1 (Ent.txt l) = 1 := rfl
        omega
    | node u =>
      obtain ⟨a1, rfl, y, ha1, tru, gu⟩ := hv4
      have ew1 : wt1 (.node u) = 3 * pts u - 1 := rfl
      have up := pts_pos u
      refine ⟨a1, _, rfl, SqT.of ha1, rfl, _, _, rfl, _, _, rfl, rfl, ?_⟩
      refine ⟨_, rfl, false, rfl, ?_⟩
      by_cases isT : ∃ ts, u = .tuple ts
      · obtain ⟨ts, rfl⟩ := isT
        cases tru with
        | @tup b xs _ hb hx =>
        refine ⟨_, rfl, _, _, _, _, true, rfl, .ty _, .base (.tup hb), k_tt, _, rfl, ?_⟩
        have gts : gds ts = true := gu
        have pT : pts (.tuple ts) = ptss ts + 1 := rfl
        have tsl : ts.length ≤ ptss ts := len_ptss ts
        have xl := hx.length
        have big : ptss ts ≤ 6000 := by omega
        -- '('
        refine ⟨_, rfl, .inl ⟨rfl, _, .inl (.inl P4)⟩, p, _, _, rfl, rfl, P4, by rw [List.length_map]; omega, ?_⟩
        have t5 := tups_lst (o := .lst (ps.map (fun l => V.str (S l)) ++ [.str (Str.ofString "(")])) P4
        have b5 : ∀ b o, b ≠ p → H4 b = some o → (upd H4 p (.lst (ps.map (fun l => V.str (S l)) ++ [.str (Str.ofString "(")]))) b = some o := fun b o n z => by rw [upd_ne n]; exact z
        have P5 : (upd H4 p (.lst (ps.map (fun l => V.str (S l)) ++ [.str (Str.ofString "(")]))) p = some (.lst ((ps ++ [[40]]).map fun l => V.str (S l))) := by
          rw [upd_same, e40, List.map_append]; rfl
        generalize upd H4 p (.lst (ps.map (fun l => V.str (S l)) ++ [.str (Str.ofString "(")])) = H5 at t5 b5 P5
        have Q5 := b5 _ _ npq.symm Q4
        have S5 : Same H H5 := fun b o z => b5 _ _ (ne_of_none z hpH) (S4 _ _ z)
        -- ')'
        refine ⟨_, rfl, .inl ⟨rfl, _, .inl (.inl Q5)⟩, (by show 2 ≤ sizeLine; decide), fun c hc => ?_⟩
        have s6 := same_new hc (.tup [.str (Str.ofString ")"), .bl true])
        have C6 : (upd H5 c (.tup [.str (Str.ofString ")"), .bl true])) c = some (.tup [.str (S [41]), .bl true]) := by rw [upd_same, e41]
        generalize upd H5 c (.tup [.str (Str.ofString ")"), .bl true]) = H6 at s6 C6
        have Q6 := s6 _ _ Q5
        refine ⟨q, _, _, rfl, rfl, Q6, by rw [List.length_reverse]; omega, ?_⟩
        have t7 := tups_lst (o := .lst (vs.reverse ++ [.ref c])) Q6
        have b7 : ∀ b o, b ≠ q → H6 b = some o → (upd H6 q (.lst (vs.reverse ++ [.ref c]))) b = some o := fun b o n z => by rw [upd_ne n]; exact z
        have Q7 : (upd H6 q (.lst (vs.reverse ++ [.ref c]))) q = some (.lst (V.ref c :: vs).reverse) := by rw [upd_same, List.reverse_cons]
        generalize upd H6 q (.lst (vs.reverse ++ [.ref c])) = H7 at t7 b7 Q7
        have T47 : Tups H4 H7 := Tups.trans t5 (Tups.trans (Tups.of_same s6) t7)
        have P7 := b7 _ _ npq (s6 _ _ P5)
        have S7 : Same H H7 := fun b o z => b7 _ _ (ne_of_none z hqH) (s6 _ _ (S5 _ _ z))
        have R7 : Paired (EntAt H7) (V.ref c :: vs) (.txt [41] :: es) := .cons ⟨c, rfl, t7 _ _ C6⟩ (ents_keep T47 hr4)
        -- for k in range(len(part) - 1, -1, -1)
        refine ⟨_, rfl, b, _, rfl, .inr (SqT.of (T47 _ _ hb)), _, _, rfl, rfl, _, rfl, _, rfl, _, _, _, _, rfl, RgC.neg (by omega) (by omega) (by omega) (by omega), ?_⟩
        rw [show ((xs.length : Int) - 1 - -1).toNat = ts.length by omega]
        refine for_rangeC (fun i σ H8 => i ≤ ts.length ∧ ∃ (o5 : Option V) (ws : List V), σ = [some x, some (.ref p), some (.ref q), some (.ref b), some (.bl false), o5] ∧ H8 q = some (.lst ws.reverse) ∧
          Paired (EntAt H8) ws (pf (decide (ts.length - i = 0)) (ts.drop (ts.length - i)) ++ (.txt [41] :: es)) ∧ H8 p = some (.lst ((ps ++ [[40]]).map fun l => V.str (S l))) ∧ Same H H8 ∧ Tups H4 H8)
          ⟨Nat.zero_le _, _, _, rfl, Q7, ?_, P7, S7, T47⟩ ?_ ?_
        · rw [Nat.sub_zero, List.drop_length]
          show Paired (EntAt H7) (V.ref c :: vs) ((pf _ []) ++ (.txt [41] :: es))
          have : ∀ b, pf b [] = [] := fun b => by cases b <;> rfl
          rw [this]
          exact R7
        · rintro i σ H8 hi ⟨_, o6, ws, rfl, q8, r8, p8, s8, t8⟩
          have kk : ts.length - (i + 1) < ts.length := by omega
          have wl : ws.length ≤ 3 * ptss ts + 1 + wt es := by
            have e1 := ents_len r8
            have e2 := len_wt (pf (decide (ts.length - i = 0)) (ts.drop (ts.length - i)) ++ (.txt [41] :: es))
            have e3 := wt_pf (decide (ts.length - i = 0)) (ts.drop (ts.length - i))
            have e4 := ptss_drop (ts.length - i) ts
            rw [wt_app] at e2
            have e5 : wt (.txt [41] :: es) = 1 + wt es := rfl
            omega
          have hxk : xs[ts.length - (i + 1)]? = some xs[ts.length - (i + 1)] := List.getElem?_eq_getElem (by omega)
          obtain ⟨tk1, htk, trk⟩ := TrAll.get hx hxk
          have gk := (ts_get gts htk).1
          generalize xs[ts.length - (i + 1)] = yk at hxk trk
          have B8 := t8 _ _ hb
          refine ⟨_, rfl, .inl ⟨rfl, _, .inl (.inl q8)⟩, _, rfl, _, rfl, b, xs, _, yk, rfl, rfl, SqT.of B8, at_of (j := ts.length - (i + 1)) (by omega) hxk, (by show 2 ≤ sizeLine; decide), fun d hd => ?_⟩
          have s9 := same_new hd (.tup [yk, .bl false])
          have D9 : (upd H8 d (.tup [yk, .bl false])) d = some (.tup [yk, .bl false]) := upd_same
          generalize upd H8 d (.tup [yk, .bl false]) = H9 at s9 D9
          have q9 := s9 _ _ q8
          refine ⟨q, _, _, rfl, rfl, q9, by rw [List.length_reverse]; omega, ?_⟩
          have ta := tups_lst (o := .lst (ws.reverse ++ [.ref d])) q9
          have ba : ∀ b o, b ≠ q → H9 b = some o → (upd H9 q (.lst (ws.reverse ++ [.ref d]))) b = some o := fun b o n z => by rw [upd_ne n]; exact z
          have qa : (upd H9 q (.lst (ws.reverse ++ [.ref d]))) q = some (.lst (V.ref d :: ws).reverse) := by rw [upd_same, List.reverse_cons]
          generalize upd H9 q (.lst (ws.reverse ++ [.ref d])) = Ha at ta ba qa
          have T4a : Tups H4 Ha := Tups.trans t8 (Tups.trans (Tups.of_same s9) ta)
          have pa := ba _ _ npq (s9 _ _ p8)
          have sa : Same H Ha := fun b o z => ba _ _ (ne_of_none z hqH) (s9 _ _ (s8 _ _ z))
          have Ed : EntAt Ha (.ref d) (.node tk1) := ⟨d, rfl, yk, ta _ _ D9, Tr.keep T4a _ _ trk, gk⟩
          have fl : decide (ts.length - i = 0) = false := decide_eq_false (by omega)
          have dr : ts.drop (ts.length - (i + 1)) = tk1 :: ts.drop (ts.length - i) := by
            rw [show ts.length - i = ts.length - (i + 1) + 1 by omega]
            obtain ⟨hlt, e⟩ := List.getElem?_eq_some_iff.mp htk
            rw [List.drop_eq_getElem_cons hlt, e]
          rw [fl] at r8
          have ra : Paired (EntAt Ha) (V.ref d :: ws) (.node tk1 :: pf false (ts.drop (ts.length - i)) ++ (.txt [41] :: es)) := .cons Ed (ents_keep (Tups.trans (Tups.of_same s9) ta) r8)
          refine ⟨_, rfl, _, _, rfl, rfl, _, rfl, ?_⟩
          refine ite2 (fun cg => ?_) (fun cg => ?_)
          · have cg' : (0 : Int) < (xs.length : Int) - 1 + (i : Nat) * -1 := of_decide_eq_true cg
            have fl2 : decide (ts.length - (i + 1) = 0) = false := decide_eq_false (by omega)
            refine ⟨_, rfl, .inl ⟨rfl, _, .inl (.inl qa)⟩, (by show 2 ≤ sizeLine; decide), fun f hf => ?_⟩
            have sb := same_new hf (.tup [.str (Str.ofString " "), .bl true])
            have Fb : (upd Ha f (.tup [.str (Str.ofString " "), .bl true])) f = some (.tup [.str (S [32]), .bl true]) := by rw [upd_same, e32]
            generalize upd Ha f (.tup [.str (Str.ofString " "), .bl true]) = Hb at sb Fb
            have qb := sb _ _ qa
            refine ⟨q, _, _, rfl, rfl, qb, by rw [List.length_reverse]; show ws.length + 1 < _; omega, ?_⟩
            have tc := tups_lst (o := .lst ((V.ref d :: ws).reverse ++ [.ref f])) qb
            refine ⟨hi, _, V.ref f :: V.ref d :: ws, rfl, by rw [upd_same, List.reverse_cons, List.reverse_cons, List.reverse_cons], ?_, by rw [upd_ne npq]; exact sb _ _ pa, fun b o z => by rw [upd_ne (ne_of_none z hqH)]; exact sb _ _ (sa _ _ z), Tups.trans T4a (Tups.trans (Tups.of_same sb) tc)⟩
            rw [fl2, dr]
            exact .cons ⟨f, rfl, tc _ _ Fb⟩ (ents_keep (Tups.trans (Tups.of_same sb) tc) ra)
          · have cg' : ¬ (0 : Int) < (xs.length : Int) - 1 + (i : Nat) * -1 := of_decide_eq_false (Bool.eq_false_iff.mpr cg)
            have fl2 : decide (ts.length - (i + 1) = 0) = true := decide_eq_true (by omega)
            refine ⟨hi, _, V.ref d :: ws, rfl, qa, ?_, pa, sa, T4a⟩
            rw [fl2, dr]
            exact ra
        · rintro σ H8 ⟨_, o6, ws, rfl, q8, r8, p8, s8, t8⟩
          rw [Nat.sub_self, List.drop_zero, show decide (0 = 0) = true from rfl] at r8
          have e1 := wt_pf true ts
          have e5 : wt (.txt [41] :: es) = 1 + wt es := rfl
          refine ⟨wt (pf true ts ++ (.txt [41] :: es)), by rw [wt_app, e5, ewt, ew1, pT]; omega, ⟨_, _, _, rfl⟩, ps ++ [[40]], ws, _, p8, q8, r8, ?_, rfl, ?_, s8⟩
          · rw [← h4, List.flatten_append, rend_app, rend_pf_t, List.append_assoc]
            show ps.flatten ++ (([40] ++ []) ++ (TL.joinL [32] (wrs ts) ++ ([41] ++ rend es))) = ps.flatten ++ (([40] ++ TL.joinL [32] (wrs ts) ++ [41]) ++ rend es)
            rw [List.append_nil, List.append_assoc, List.append_assoc]
          · rw [wt_app, e5, List.length_append]
            show ps.length + 1 + _ ≤ _
            omega
      · have nt : ∀ ts, u ≠ .tuple ts := fun ts z => isT ⟨ts, z⟩
        refine ⟨_, rfl, _, _, _, _, false, rfl, .ty _, tru.ty, leaf_kit nt, _, rfl, ?_⟩
        refine ⟨_, rfl, .inl ⟨rfl, _, .inl (.inl P4)⟩, _, rfl, y, u, rfl, tru, gu, nt, fun H5 s5 => ?_⟩
        have P5 := s5 _ _ P4
        refine ⟨p, _, _, rfl, rfl, P5, by rw [List.length_map]; omega, ?_⟩
        have t5 := tups_lst (o := .lst (ps.map (fun l => V.str (S l)) ++ [.str (S (wr u))])) P5
        refine ⟨wt es, by rw [ewt]; omega, ⟨_, _, _, rfl⟩, ps ++ [wr u], vs, es, by rw [upd_same, List.map_append]; rfl, by rw [upd_ne npq.symm]; exact s5 _ _ Q4, ents_keep (Tups.trans (Tups.of_same s5) t5) hr4, ?_, rfl, ?_, fun b o z => by rw [upd_ne (ne_of_none z hpH)]; exact s5 _ _ (S4 _ _ z)⟩
        · rw [← h4, List.flatten_append, List.append_assoc]
          show ps.flatten ++ ((wr u ++ []) ++ rend es) = ps.flatten ++ (wr u ++ rend es)
          rw [List.append_nil]
        · rw [List.length_append]
          show ps.length + 1 + wt es ≤ _
          omega
end
end TK
namespace TK
open PySem L2
/-! ### the reader's fields -/
theorem lk_hit {f : Str} {v : V} {r : List (Str × V)} : List.lookup f ((f, v) :: r) = some v := by simp [List.lookup]
theorem lk_miss {f g : Str} {v : V} {r : List (Str × V)} (h : ¬ f = g) : List.lookup f ((g, v) :: r) = List.lookup f r := by
  have e : (f == g) = false := beq_eq_false_iff_ne.mpr h
  simp [List.lookup, e]
theorem pf_hit {f : Str} {v w : V} {r : List (Str × V)} : putF f w ((f, v) :: r) = (f, w) :: r := by
  show (if f = f then _ else _) = _
  rw [if_pos rfl]
theorem pf_miss {f g : Str} {v w : V} {r : List (Str × V)} (h : ¬ g = f) : putF f w ((g, v) :: r) = (g, v) :: putF f w r := by
  show (if g = f then _ else _) = _
  rw [if_neg h]
theorem pf_nil {f : Str} {w : V} : putF f w [] = [(f, w)] := rfl
theorem n_text_most_parts : ¬ ("text" : Str) = "most_parts" := by decide +kernel
theorem n_text_most_deep : ¬ ("text" : Str) = "most_deep" := by decide +kernel
theorem n_text_at : ¬ ("text" : Str) = "at" := by decide +kernel
theorem n_text_many : ¬ ("text" : Str) = "many" := by decide +kernel
theorem n_text_unclosed : ¬ ("text" : Str) = "unclosed" := by decide +kernel
theorem n_text_result : ¬ ("text" : Str) = "result" := by decide +kernel
theorem n_most_parts_text : ¬ ("most_parts" : Str) = "text" := by decide +kernel
theorem n_most_parts_most_deep : ¬ ("most_parts" : Str) = "most_deep" := by decide +kernel
theorem n_most_parts_at : ¬ ("most_parts" : Str) = "at" := by decide +kernel
theorem n_most_parts_many : ¬ ("most_parts" : Str) = "many" := by decide +kernel
theorem n_most_parts_unclosed : ¬ ("most_parts" : Str) = "unclosed" := by decide +kernel
theorem n_most_parts_result : ¬ ("most_parts" : Str) = "result" := by decide +kernel
theorem n_most_deep_text : ¬ ("most_deep" : Str) = "text" := by decide +kernel
theorem n_most_deep_most_parts : ¬ ("most_deep" : Str) = "most_parts" := by decide +kernel
theorem n_most_deep_at : ¬ ("most_deep" : Str) = "at" := by decide +kernel
theorem n_most_deep_many : ¬ ("most_deep" : Str) = "many" := by decide +kernel
theorem n_most_deep_unclosed : ¬ ("most_deep" : Str) = "unclosed" := by decide +kernel
theorem n_most_deep_result : ¬ ("most_deep" : Str) = "result" := by decide +kernel
theorem n_at_text : ¬ ("at" : Str) = "text" := by decide +kernel
theorem n_at_most_parts : ¬ ("at" : Str) = "most_parts" := by decide +kernel
theorem n_at_most_deep : ¬ ("at" : Str) = "most_deep" := by decide +kernel
theorem n_at_many : ¬ ("at" : Str) = "many" := by decide +kernel
theorem n_at_unclosed : ¬ ("at" : Str) = "unclosed" := by decide +kernel
theorem n_at_result : ¬ ("at" : Str) = "result" := by decide +kernel
theorem n_many_text : ¬ ("many" : Str) = "text" := by decide +kernel
theorem n_many_most_parts : ¬ ("many" : Str) = "most_parts" := by decide +kernel
theorem n_many_most_deep : ¬ ("many" : Str) = "most_deep" := by decide +kernel
theorem n_many_at : ¬ ("many" : Str) = "at" := by decide +kernel
theorem n_many_unclosed : ¬ ("many" : Str) = "unclosed" := by decide +kernel
theorem n_many_result : ¬ ("many" : Str) = "result" := by decide +kernel
theorem n_unclosed_text : ¬ ("unclosed" : Str) = "text" := by decide +kernel
theorem n_unclosed_most_parts : ¬ ("unclosed" : Str) = "most_parts" := by decide +kernel
theorem n_unclosed_most_deep : ¬ ("unclosed" : Str) = "most_deep" := by decide +kernel
theorem n_unclosed_at : ¬ ("unclosed" : Str) = "at" := by decide +kernel
theorem n_unclosed_many : ¬ ("unclosed" : Str) = "many" := by decide +kernel
theorem n_unclosed_result : ¬ ("unclosed" : Str) = "result" := by decide +kernel
theorem n_result_text : ¬ ("result" : Str) = "text" := by decide +kernel
theorem n_result_most_parts : ¬ ("result" : Str) = "most_parts" := by decide +kernel
theorem n_result_most_deep : ¬ ("result" : Str) = "most_deep" := by decide +kernel
theorem n_result_at : ¬ ("result" : Str) = "at" := by decide +kernel
theorem n_result_many : ¬ ("result" : Str) = "many" := by decide +kernel
theorem n_result_unclosed : ¬ ("result" : Str) = "unclosed" := by decide +kernel
theorem n_whole_text : ¬ ("whole" : Str) = "text" := by decide +kernel
theorem n_whole_most_parts : ¬ ("whole" : Str) = "most_parts" := by decide +kernel
theorem n_whole_most_deep : ¬ ("whole" : Str) = "most_deep" := by decide +kernel
theorem n_whole_at : ¬ ("whole" : Str) = "at" := by decide +kernel
theorem n_whole_many : ¬ ("whole" : Str) = "many" := by decide +kernel
theorem n_whole_unclosed : ¬ ("whole" : Str) = "unclosed" := by decide +kernel
theorem n_whole_result : ¬ ("whole" : Str) = "result" := by decide +kernel
theorem n_begin_part_text : ¬ ("begin_part" : Str) = "text" := by decide +kernel
theorem n_begin_part_most_parts : ¬ ("begin_part" : Str) = "most_parts" := by decide +kernel
theorem n_begin_part_most_deep : ¬ ("begin_part" : Str) = "most_deep" := by decide +kernel
theorem n_begin_part_at : ¬ ("begin_part" : Str) = "at" := by decide +kernel
theorem n_begin_part_many : ¬ ("begin_part" : Str) = "many" := by decide +kernel
theorem n_begin_part_unclosed : ¬ ("begin_part" : Str) = "unclosed" := by decide +kernel
theorem n_begin_part_result : ¬ ("begin_part" : Str) = "result" := by decide +kernel
theorem n_go_on_text : ¬ ("go_on" : Str) = "text" := by decide +kernel
theorem n_go_on_most_parts : ¬ ("go_on" : Str) = "most_parts" := by decide +kernel
theorem n_go_on_most_deep : ¬ ("go_on" : Str) = "most_deep" := by decide +kernel
theorem n_go_on_at : ¬ ("go_on" : Str) = "at" := by decide +kernel
theorem n_go_on_many : ¬ ("go_on" : Str) = "many" := by decide +kernel
theorem n_go_on_unclosed : ¬ ("go_on" : Str) = "unclosed" := by decide +kernel
theorem n_go_on_result : ¬ ("go_on" : Str) = "result" := by decide +kernel
theorem n_end_part_text : ¬ ("end_part" : Str) = "text" := by decide +kernel
theorem n_end_part_most_parts : ¬ ("end_part" : Str) = "most_parts" := by decide +kernel
theorem n_end_part_most_deep : ¬ ("end_part" : Str) = "most_deep" := by decide +kernel
theorem n_end_part_at : ¬ ("end_part" : Str) = "at" := by decide +kernel
theorem n_end_part_many : ¬ ("end_part" : Str) = "many" := by decide +kernel
theorem n_end_part_unclosed : ¬ ("end_part" : Str) = "unclosed" := by decide +kernel
theorem n_end_part_result : ¬ ("end_part" : Str) = "result" := by decide +kernel
theorem n_following_text : ¬ ("following" : Str) = "text" := by decide +kernel
theorem n_following_most_parts : ¬ ("following" : Str) = "most_parts" := by decide +kernel
theorem n_following_most_deep : ¬ ("following" : Str) = "most_deep" := by decide +kernel
theorem n_following_at : ¬ ("following" : Str) = "at" := by decide +kernel
theorem n_following_many : ¬ ("following" : Str) = "many" := by decide +kernel
theorem n_following_unclosed : ¬ ("following" : Str) = "unclosed" := by decide +kernel
theorem n_following_result : ¬ ("following" : Str) = "result" := by decide +kernel
theorem n_spell_text : ¬ ("spell" : Str) = "text" := by decide +kernel
theorem n_spell_most_parts : ¬ ("spell" : Str) = "most_parts" := by decide +kernel
theorem n_spell_most_deep : ¬ ("spell" : Str) = "most_deep" := by decide +kernel
theorem n_spell_at : ¬ ("spell" : Str) = "at" := by decide +kernel
theorem n_spell_many : ¬ ("spell" : Str) = "many" := by decide +kernel
theorem n_spell_unclosed : ¬ ("spell" : Str) = "unclosed" := by decide +kernel
theorem n_spell_result : ¬ ("spell" : Str) = "result" := by decide +kernel
theorem n_read_number_text : ¬ ("read_number" : Str) = "text" := by decide +kernel
theorem n_read_number_most_parts : ¬ ("read_number" : Str) = "most_parts" := by decide +kernel
theorem n_read_number_most_deep : ¬ ("read_number" : Str) = "most_deep" := by decide +kernel
theorem n_read_number_at : ¬ ("read_number" : Str) = "at" := by decide +kernel
theorem n_read_number_many : ¬ ("read_number" : Str) = "many" := by decide +kernel
theorem n_read_number_unclosed : ¬ ("read_number" : Str) = "unclosed" := by decide +kernel
theorem n_read_number_result : ¬ ("read_number" : Str) = "result" := by decide +kernel
theorem n_read_string_text : ¬ ("read_string" : Str) = "text" := by decide +kernel
theorem n_read_string_most_parts : ¬ ("read_string" : Str) = "most_parts" := by decide +kernel
theorem n_read_string_most_deep : ¬ ("read_string" : Str) = "most_deep" := by decide +kernel
theorem n_read_string_at : ¬ ("read_string" : Str) = "at" := by decide +kernel
theorem n_read_string_many : ¬ ("read_string" : Str) = "many" := by decide +kernel
theorem n_read_string_unclosed : ¬ ("read_string" : Str) = "unclosed" := by decide +kernel
theorem n_read_string_result : ¬ ("read_string" : Str) = "result" := by decide +kernel
/-- the attributes of a reader -/
def rf (z : List Nat) (k many : Nat) (u : Addr) (res : V) : List (Str × V) := [("text", .str (S z)), ("most_parts", .int 2000), ("most_deep", .int 30), ("at", .int (k : Int)), ("many", .int (many : Int)), ("unclosed", .ref u), ("result", res)]
section
variable {z : List Nat} {k many : Nat} {u : Addr} {res : V}
theorem rf_text : (rf z k many u res).lookup ("text" : Str) = some (.str (S z)) := lk_hit
theorem rf_most_parts : (rf z k many u res).lookup ("most_parts" : Str) = some (.int 2000) := (lk_miss n_most_parts_text).trans (lk_hit)
theorem rf_most_deep : (rf z k many u res).lookup ("most_deep" : Str) = some (.int 30) := (lk_miss n_most_deep_text).trans ((lk_miss n_most_deep_most_parts).trans (lk_hit))
theorem rf_at : (rf z k many u res).lookup ("at" : Str) = some (.int (k : Int)) := (lk_miss n_at_text).trans ((lk_miss n_at_most_parts).trans ((lk_miss n_at_most_deep).trans (lk_hit)))
theorem rf_many : (rf z k many u res).lookup ("many" : Str) = some (.int (many : Int)) := (lk_miss n_many_text).trans ((lk_miss n_many_most_parts).trans ((lk_miss n_many_most_deep).trans ((lk_miss n_many_at).trans (lk_hit))))
theorem rf_unclosed : (rf z k many u res).lookup ("unclosed" : Str) = some (.ref u) := (lk_miss n_unclosed_text).trans ((lk_miss n_unclosed_most_parts).trans ((lk_miss n_unclosed_most_deep).trans ((lk_miss n_unclosed_at).trans ((lk_miss n_unclosed_many).trans (lk_hit)))))
theorem rf_result : (rf z k many u res).lookup ("result" : Str) = some (res) := (lk_miss n_result_text).trans ((lk_miss n_result_most_parts).trans ((lk_miss n_result_most_deep).trans ((lk_miss n_result_at).trans ((lk_miss n_result_many).trans ((lk_miss n_result_unclosed).trans (lk_hit))))))
theorem rf_whole : (rf z k many u res).lookup ("whole" : Str) = none := (lk_miss n_whole_text).trans ((lk_miss n_whole_most_parts).trans ((lk_miss n_whole_most_deep).trans ((lk_miss n_whole_at).trans ((lk_miss n_whole_many).trans ((lk_miss n_whole_unclosed).trans ((lk_miss n_whole_result).trans (rfl)))))))
theorem rf_begin_part : (rf z k many u res).lookup ("begin_part" : Str) = none := (lk_miss n_begin_part_text).trans ((lk_miss n_begin_part_most_parts).trans ((lk_miss n_begin_part_most_deep).trans ((lk_miss n_begin_part_at).trans ((lk_miss n_begin_part_many).trans ((lk_miss n_begin_part_unclosed).trans ((lk_miss n_begin_part_result).trans (rfl)))))))
theorem rf_go_on : (rf z k many u res).lookup ("go_on" : Str) = none := (lk_miss n_go_on_text).trans ((lk_miss n_go_on_most_parts).trans ((lk_miss n_go_on_most_deep).trans ((lk_miss n_go_on_at).trans ((lk_miss n_go_on_many).trans ((lk_miss n_go_on_unclosed).trans ((lk_miss n_go_on_result).trans (rfl)))))))
theorem rf_end_part : (rf z k many u res).lookup ("end_part" : Str) = none := (lk_miss n_end_part_text).trans ((lk_miss n_end_part_most_parts).trans ((lk_miss n_end_part_most_deep).trans ((lk_miss n_end_part_at).trans ((lk_miss n_end_part_many).trans ((lk_miss n_end_part_unclosed).trans ((lk_miss n_end_part_result).trans (rfl)))))))
theorem rf_following : (rf z k many u res).lookup ("following" : Str) = none := (lk_miss n_following_text).trans ((lk_miss n_following_most_parts).trans ((lk_miss n_following_most_deep).trans ((lk_miss n_following_at).trans ((lk_miss n_following_many).trans ((lk_miss n_following_unclosed).trans ((lk_miss n_following_result).trans (rfl)))))))
theorem rf_spell : (rf z k many u res).lookup ("spell" : Str) = none := (lk_miss n_spell_text).trans ((lk_miss n_spell_most_parts).trans ((lk_miss n_spell_most_deep).trans ((lk_miss n_spell_at).trans ((lk_miss n_spell_many).trans ((lk_miss n_spell_unclosed).trans ((lk_miss n_spell_result).trans (rfl)))))))
theorem rf_read_number : (rf z k many u res).lookup ("read_number" : Str) = none := (lk_miss n_read_number_text).trans ((lk_miss n_read_number_most_parts).trans ((lk_miss n_read_number_most_deep).trans ((lk_miss n_read_number_at).trans ((lk_miss n_read_number_many).trans ((lk_miss n_read_number_unclosed).trans ((lk_miss n_read_number_result).trans (rfl)))))))
theorem rf_read_string : (rf z k many u res).lookup ("read_string" : Str) = none := (lk_miss n_read_string_text).trans ((lk_miss n_read_string_most_parts).trans ((lk_miss n_read_string_most_deep).trans ((lk_miss n_read_string_at).trans ((lk_miss n_read_string_many).trans ((lk_miss n_read_string_unclosed).trans ((lk_miss n_read_string_result).trans (rfl)))))))
theorem rfp_at (j : Nat) : putF ("at" : Str) (.int (j : Int)) (rf z k many u res) = rf z j many u res := by
  unfold rf
  rw [pf_miss n_text_at, pf_miss n_most_parts_at, pf_miss n_most_deep_at, pf_hit]
theorem rfp_many (j : Nat) : putF ("many" : Str) (.int (j : Int)) (rf z k many u res) = rf z k j u res := by
  unfold rf
  rw [pf_miss n_text_many, pf_miss n_most_parts_many, pf_miss n_most_deep_many, pf_miss n_at_many, pf_hit]
theorem rfp_result (y : V) : putF ("result" : Str) y (rf z k many u res) = rf z k many u y := by
  unfold rf
  rw [pf_miss n_text_result, pf_miss n_most_parts_result, pf_miss n_most_deep_result, pf_miss n_at_result, pf_miss n_many_result, pf_miss n_unclosed_result, pf_hit]
theorem rf_len : (rf z k many u res).length < 1000 := by show 7 < 1000; decide
theorem rf_made (z : List Nat) (u : Addr) : putF ("result" : Str) .non (putF ("unclosed" : Str) (.ref u) (putF ("many" : Str) (.int 0) (putF ("at" : Str) (.int 0) (putF ("most_deep" : Str) (.int 30) (putF ("most_parts" : Str) (.int 2000) (putF ("text" : Str) (.str (S z)) [])))))) = rf z 0 0 u .non := by
  rw [pf_nil, pf_miss n_text_most_parts, pf_nil, pf_miss n_text_most_deep, pf_miss n_most_parts_most_deep, pf_nil, pf_miss n_text_at, pf_miss n_most_parts_at, pf_miss n_most_deep_at, pf_nil, pf_miss n_text_many, pf_miss n_most_parts_many, pf_miss n_most_deep_many, pf_miss n_at_many, pf_nil, pf_miss n_text_unclosed, pf_miss n_most_parts_unclosed, pf_miss n_most_deep_unclosed, pf_miss n_at_unclosed, pf_miss n_many_unclosed, pf_nil, pf_miss n_text_result, pf_miss n_most_parts_result, pf_miss n_most_deep_result, pf_miss n_at_result, pf_miss n_many_result, pf_miss n_unclosed_result, pf_nil]
  rfl
end
/-- nothing but the object at r differs -/
theorem upd_self {H : Hp} {r : Addr} {o : HO} (h : H r = some o) : upd H r o = H := by
  funext b
  by_cases e : b = r
  · rw [e, upd_same, h]
  · rw [upd_ne e]
end TK
namespace TK
open PySem L2
/-! ### signs -/
theorem e36 : Str.ofString "$" = S [36] := by decide +kernel
theorem e38 : Str.ofString "&" = S [38] := by decide +kernel
theorem e45 : Str.ofString "-" = S [45] := by decide +kernel
theorem e48 : Str.ofString "0" = S [48] := by decide +kernel
theorem e49 : Str.ofString "1" = S [49] := by decide +kernel
theorem e57 : Str.ofString "9" = S [57] := by decide +kernel
theorem e92 : Str.ofString "\\" = S [92] := by decide +kernel
theorem e110 : Str.ofString "n" = S [110] := by decide +kernel
theorem e121 : Str.ofString "y" = S [121] := by decide +kernel
theorem e126 : Str.ofString "~" = S [126] := by decide +kernel
theorem eyes : Str.ofString "yes" = S [121, 101, 115] := by decide +kernel
theorem eno : Str.ofString "no" = S [110, 111] := by decide +kernel
theorem S_inj {a b : List Nat} : S a = S b ↔ a = b := by
  constructor
  · intro h
    have e := congrArg (fun x : Str => x.cps.toList) h
    exact e
  · intro h; rw [h]
theorem str_ne {a b : List Nat} (h : a ≠ b) : decide ((V.str (S a)) = .str (S b)) = false := decide_eq_false fun e => h (S_inj.mp (V.str.inj e))
theorem str_eq {a : List Nat} : decide ((V.str (S a)) = .str (S a)) = true := decide_eq_true rfl
theorem le_cc (c d : Nat) : (!decide ((S [c]).cps.toList < (S [d]).cps.toList)) = decide (d ≤ c) := by
  have e : ((S [c]).cps.toList < (S [d]).cps.toList) ↔ c < d := by
    show List.Lex (· < ·) [c] [d] ↔ c < d
    constructor
    · intro h
      cases h with
      | rel h => exact h
      | cons h => cases h
    · exact fun h => .rel h
  by_cases q : c < d
  · rw [decide_eq_true (e.mpr q), decide_eq_false (by omega)]; rfl
  · rw [decide_eq_false (fun z => q (e.mp z)), decide_eq_true (by omega)]; rfl
theorem le_ce (d : Nat) : (!decide ((S []).cps.toList < (S [d]).cps.toList)) = false := by
  have e : (S []).cps.toList < (S [d]).cps.toList := by
    show List.Lex (· < ·) [] [d]
    exact .nil
  rw [decide_eq_true e]; rfl
theorem at_last (xs : List V) (v : V) : atI (xs ++ [v]) (-1) = some v := by
  have e : ixN (xs ++ [v]).length (-1) = some xs.length := by
    unfold ixN
    rw [List.length_append, List.length_singleton]
    rw [if_neg (by decide), if_pos (by omega)]
    congr 1
    omega
  unfold atI
  rw [e]
  simp
theorem take1 (c : Nat) (l : List Nat) : (c :: l).take 1 = [c] := rfl
theorem drop_tail {z l : List Nat} {c k : Nat} (h : z.drop k = c :: l) : z.drop (k + 1) = l := by
  rw [← List.drop_drop, h]; rfl
theorem drop_app {z l r : List Nat} {k : Nat} (h : z.drop k = l ++ r) : z.drop (k + l.length) = r := by
  rw [← List.drop_drop, h, List.drop_left]
/-! ### the sign at the reader -/
section
variable (C : Addr)
/-- the reader r: its text z, its index k, rest the rest of the text -/
def RdAt (H : Hp) (r : Addr) (z rest : List Nat) (k many : Nat) (u : Addr) (res : V) (dx : Addr) : Prop := H r = some (.ins C dx (rf z k many u res)) ∧ z.drop k = rest ∧ z.length ≤ sizeLine
def spRF : Sp := fun vs H Q _ => ∃ (r dx : Addr) (z rest : List Nat) (k many : Nat) (u : Addr) (res : V), vs = [.ref r] ∧ RdAt C H r z rest k many u res dx ∧ Q (.str (S (rest.take 1))) H
def spPlain : Sp := fun vs H Q _ => ∃ c : Nat, vs = [.str (S [c])] ∧ plainC c = true ∧ Q (.bl true) H
/-- signs are taken, nothing is told -/
def spRS : Sp := fun vs H Q _ => ∃ (r dx : Addr) (z l rest : List Nat) (k many : Nat) (u : Addr) (res : V), vs = [.ref r, .str (S l)] ∧ RdAt C H r z (l ++ rest) k many u res dx ∧
  (∀ H', But r H H' → RdAt C H' r z rest (k + l.length) many u res dx → Q .non H')
/-- a part is done -/
def spRE : Sp := fun vs H Q _ => ∃ (r dx : Addr) (z rest : List Nat) (k many : Nat) (u : Addr) (res y : V) (us : List V), vs = [.ref r, y] ∧ RdAt C H r z rest k many u res dx ∧ H u = some (.lst us) ∧
  ((us = [] ∧ Q .non (upd H r (.ins C dx (rf z k many u y)))) ∨ ∃ (vs' : List V) (l : Addr) (xs : List V), us = vs' ++ [.ref l] ∧ H l = some (.lst xs) ∧ xs.length < sizeLine ∧ Q .non (upd H l (.lst (xs ++ [y]))))
end
section
variable {P : Program} {w : World} {K : PySem.W.Frag} {mg : Str → Option Value} {base : Heap} {ad : Nm → Addr} {dd : Nm → FuncData}
theorem scPlain : FnScope ["sign"] ["sign"] (defScope sPlain) := ⟨rfl, rfl, rfl, by decide +kernel, rfl, by decide +kernel, by decide +kernel⟩
theorem scRF : FnScope ["self"] ["self"] (defScope sRF) := ⟨rfl, rfl, rfl, by decide +kernel, rfl, by decide +kernel, by decide +kernel⟩
theorem scRE : FnScope ["self", "part"] ["self", "part"] (defScope sRE) := ⟨rfl, rfl, rfl, by decide +kernel, rfl, by decide +kernel, by decide +kernel⟩
theorem scRS : FnScope ["self", "signs", "sign"] ["self", "signs"] (defScope sRS) := ⟨rfl, rfl, rfl, by decide +kernel, rfl, by decide +kernel, by decide +kernel⟩
theorem ok_plain (T : Txt K mg ad dd) : FnOk P w K mg base CX0 1 (ad .Plain) (dd .Plain) ["sign"] spPlain := by
  refine T.Plain.F.ok scPlain (fun vs H Q E h => ?_) (fun cdv A outer s H vs Q E hr h => ?_)
  · obtain ⟨c, rfl, _⟩ := h
    rfl
  obtain ⟨c, rfl, hc, k⟩ := h
  have hc' : (decide (32 ≤ c) && decide (c ≤ 36) || decide (38 ≤ c) && decide (c ≤ 126)) = true := hc
  refine ⟨_, (pss_one (ps_ret (pe_or (pe_chain op_le_str op_le_str pe_str (pv 0) pe_str) (pe_one (pe_chain op_le_str op_le_str pe_str (pv 0) pe_str))))), ?_⟩
  refine ⟨_, rfl, _, _, rfl, rfl, _, rfl, ?_⟩
  rw [e32, le_cc]
  refine ite2 (fun c1 => ⟨_, _, rfl, rfl, _, rfl, ?_⟩) (fun c1 => ⟨_, rfl, ?_⟩)
  · rw [e36, le_cc]
    refine ite2 (fun c2 => k) (fun c2 => ?_)
    refine ⟨_, rfl, _, _, rfl, rfl, _, rfl, ?_⟩
    have c1' := of_decide_eq_true c1
    have c2' := of_decide_eq_false (Bool.eq_false_iff.mpr c2)
    rw [decide_eq_true c1', decide_eq_false c2', Bool.and_false, Bool.false_or, Bool.and_eq_true] at hc'
    rw [e38, le_cc, hc'.1]
    refine iteT ⟨_, _, rfl, rfl, ?_⟩
    rw [e126, le_cc, hc'.2]
    exact k
  · refine iteF ⟨_, rfl, _, _, rfl, rfl, _, rfl, ?_⟩
    have c1' := of_decide_eq_false (Bool.eq_false_iff.mpr c1)
    rw [decide_eq_false c1', Bool.false_and, Bool.false_or, Bool.and_eq_true] at hc'
    rw [e38, le_cc, hc'.1]
    refine iteT ⟨_, _, rfl, rfl, ?_⟩
    rw [e126, le_cc, hc'.2]
    exact k
theorem ok_rf (T : Txt K mg ad dd) : FnOk P w K mg base CX0 1 (ad .RF) (dd .RF) ["self"] (spRF (ad .Reader)) := by
  refine T.RF.F.ok scRF (fun vs H Q E h => ?_) (fun cdv A outer s H vs Q E hr h => ?_)
  · obtain ⟨r, dx, z, rest, k, many, u, res, rfl, _⟩ := h
    rfl
  obtain ⟨r, dx, z, rest, k, many, u, res, rfl, ⟨hr0, rfl, hz⟩, q⟩ := h
  refine ⟨_, (pss_one (ps_ret (pe_slice sl_str (pe_fld (pv 0) rfl) (po_some (pe_fld (pv 0) rfl)) (po_some (pe_op op_add (pe_fld (pv 0) rfl) pe_int))))), ?_⟩
  refine ⟨_, rfl, r, _, dx, _, _, rfl, hr0, T.cl, T.aText, rf_text, ?_⟩
  refine ⟨_, rfl, r, _, dx, _, _, rfl, hr0, T.cl, T.aAt, rf_at, _, rfl, ?_⟩
  refine ⟨_, rfl, r, _, dx, _, _, rfl, hr0, T.cl, T.aAt, rf_at, _, _, rfl, rfl, _, rfl, S z, rfl, by rw [S_len]; exact hz, ?_⟩
  have e : cutS (S z) (some (k : Int)) (some ((k : Int) + 1)) = S ((z.drop k).take 1) := by
    show S _ = S _
    rw [S_inj, S_len, HT.sIx_nat, show (k : Int) + 1 = ((k + 1 : Nat) : Int) by omega, HT.sIx_nat]
    show ((z.drop (min k z.length)).take _) = _
    by_cases h : k < z.length
    · rw [Nat.min_eq_left (Nat.le_of_lt h), show min (k + 1) z.length - k = 1 by omega]
    · rw [List.drop_eq_nil_of_le (show z.length ≤ min k z.length by omega), List.drop_eq_nil_of_le (by omega), List.take_nil, List.take_nil]
  rw [e]
  exact q
theorem ok_re (T : Txt K mg ad dd) : FnOk P w K mg base CX0 1 (ad .RE) (dd .RE) ["self", "part"] (spRE (ad .Reader)) := by
  refine T.RE.F.ok scRE (fun vs H Q E h => ?_) (fun cdv A outer s H vs Q E hr h => ?_)
  · obtain ⟨r, dx, z, rest, k, many, u, res, y, us, rfl, _⟩ := h
    rfl
  obtain ⟨r, dx, z, rest, k, many, u, res, y, us, rfl, ⟨hr0, rfl, hz⟩, hu, q⟩ := h
  refine ⟨_, (pss_one (ps_if (pt_truth (pe_fld (pv 0) rfl) (fun _ => rfl)) (pss_one (ps_expr (pe_bm PySem.F.plainAttrs_list PySem.F.slot_list_append PySem.F.type_list_append mt_append (pe_ix ix_list (pe_fld (pv 0) rfl) (pe_un un_neg pe_int) (fun _ _ => rfl)) (pa_cons (pv 1) pa_nil)))) (pss_one (ps_fld (pv 0) (pv 1) rfl)))), ?_⟩
  rcases q with ⟨rfl, q⟩ | ⟨vs', l, xs, rfl, hl, hx, q⟩
  · refine ⟨_, rfl, r, _, dx, _, _, rfl, hr0, T.cl, T.aUnclosed, rf_unclosed, false, .inl ⟨_, SqL.of hu, rfl⟩, ?_⟩
    refine iteF ⟨_, rfl, _, rfl, r, _, dx, _, rfl, hr0, T.cl, T.aResult, rf_len, ?_⟩
    rw [rfp_result]
    exact q
  · refine ⟨_, rfl, r, _, dx, _, _, rfl, hr0, T.cl, T.aUnclosed, rf_unclosed, true, .inl ⟨_, SqL.of hu, by simp⟩, ?_⟩
    refine iteT ⟨_, rfl, r, _, dx, _, _, rfl, hr0, T.cl, T.aUnclosed, rf_unclosed, _, rfl, u, _, _, .ref l, rfl, rfl, SqL.of hu, ?_, .inl ⟨rfl, _, .inl (.inl hl)⟩, _, rfl, l, _, _, rfl, rfl, hl, hx, q⟩
    exact at_last _ _
theorem ok_rs (T : Txt K mg ad dd) : FnOk P w K mg base CX0 2 (ad .RS) (dd .RS) ["self", "signs"] (spRS (ad .Reader)) := by
  have GRF := ok_rf (P := P) (w := w) (base := base) T
  refine T.RS.F.ok scRS (fun vs H Q E h => ?_) (fun cdv A outer s H vs Q E hr h => ?_)
  · obtain ⟨r, dx, z, l, rest, k, many, u, res, rfl, _⟩ := h
    rfl
  obtain ⟨r, dx, z, l, rest, k, many, u, res, rfl, ⟨hr0, hd, hz⟩, q⟩ := h
  refine ⟨_, (pss_one (ps_for PassesOwn.never rfl (pi_str (pv 1)) (pg_name (i := 2) scRS.nd rfl (Or.inl rfl)) (pss_cons (ps_if (pt_cmpR op_ne (pe_meth0 (pv 0) T.cl T.RF.M GRF (hr.mono (by first | decide | omega)) T.RF.b .nil pass0) (pv 2) (nomark _)) (pss_one ps_never) pss_nil)
      (pss_one (ps_fldaug (pv 0) pe_int in_add))))), ?_⟩
  refine ⟨_, rfl, S l, rfl, ?_⟩
  refine for_it walk_str (fun i σ H' => But r H H' ∧ RdAt (ad .Reader) H' r z (l.drop i ++ rest) (k + i) many u res dx ∧ ∃ o : Option V, σ = [some (.ref r), some (.str (S l)), o]) ⟨But.refl _ _, ⟨hr0, hd, hz⟩, _, rfl⟩ (fun _ _ _ _ _ => True.intro) ?_ ?_
  · rintro i x σ H' H'' hi ⟨b1, ⟨h1, h2, h3⟩, o, rfl⟩ ⟨rfl, c, hc, rfl⟩
    have hil : i < l.length := by
      have : (S l).cps.size = l.length := List.size_toArray
      omega
    have hc' : l[i]? = some c := by
      have : l.toArray[i]? = some c := hc
      rwa [List.getElem?_toArray] at this
    have hdl : l.drop i = c :: l.drop (i + 1) := by
      obtain ⟨hlt, e⟩ := List.getElem?_eq_some_iff.mp hc'
      rw [List.drop_eq_getElem_cons hlt, e]
    rw [hdl] at h2
    refine ⟨_, rfl, r, dx, _, rfl, h1, rf_following, r, dx, z, _, _, many, u, res, rfl, ⟨h1, h2, h3⟩, ?_⟩
    refine ⟨_, rfl, rfl, _, rfl, ?_⟩
    have e0 : (!decide ((V.str (S (List.take 1 (c :: l.drop (i + 1) ++ rest)))) = V.str ⟨#[c]⟩)) = false := by
      show (!decide ((V.str (S [c])) = V.str (S [c]))) = false
      rw [str_eq]; rfl
    rw [e0]
    refine iteF ⟨_, rfl, r, _, dx, _, _, rfl, h1, T.cl, T.aAt, rf_at, _, _, rfl, rfl, dx, _, h1, rf_len, ?_⟩
    rw [show ((k + i : Nat) : Int) + 1 = ((k + (i + 1) : Nat) : Int) by omega, rfp_at]
    exact ⟨But.trans b1 But.put, ⟨upd_same, by rw [← Nat.add_assoc]; exact drop_tail h2, h3⟩, _, rfl⟩
  · rintro σ H' ⟨b1, ⟨h1, h2, h3⟩, o, rfl⟩
    have e1 : (S l).cps.size = l.length := List.size_toArray
    rw [e1, List.drop_length, List.nil_append] at h2
    rw [e1] at h1
    exact q H' b1 ⟨h1, h2 |> fun z => by rw [← z], h3⟩
end
end TK
namespace TK
open PySem L2
/-! ### a number is read -/
theorem numL_head (n : Nat) : 0 < n → ∃ (d : Nat) (ds : List Nat), TL.numL n = d :: ds ∧ 49 ≤ d ∧ d ≤ 57 := by
  induction n using Nat.strongRecOn with
  | _ n ih =>
    intro h
    by_cases c : n < 10
    · exact ⟨48 + n, [], TL.numL_lt c, by omega, by omega⟩
    · obtain ⟨d, ds, e, h1, h2⟩ := ih (n / 10) (by omega) (by omega)
      exact ⟨d, ds ++ [48 + n % 10], by rw [TL.numL_step (by omega), e]; rfl, h1, h2⟩
/-- no digit is next -/
def NoDig (l : List Nat) : Prop := ∀ c r, l = c :: r → ¬ (48 ≤ c ∧ c ≤ 57)
theorem cut_mid {z ds rest : List Nat} {k p : Nat} (h : z.drop k = ds ++ rest) (e : p = k + ds.length) (hk : k ≤ z.length) : cutS (S z) (some (k : Int)) (some (p : Int)) = S ds := by
  show S _ = S _
  have hl : z.length - k = ds.length + rest.length := by rw [← List.length_drop, h, List.length_append]
  rw [S_inj, S_len, HT.sIx_nat, HT.sIx_nat, Nat.min_eq_left hk, Nat.min_eq_left (by omega), show p - k = ds.length by omega]
  show (z.drop k).take ds.length = ds
  rw [h, List.take_left]
def spRN (C : Addr) : Sp := fun vs H Q _ => ∃ (r dx : Addr) (z l rest : List Nat) (k many : Nat) (u : Addr) (res y : V), vs = [.ref r] ∧ RdAt C H r z (l ++ rest) k many u res dx ∧ NoDig rest ∧
  ((l = [45] ∧ y = .non) ∨ ∃ i : Int, l = intL i ∧ y = .int i ∧ i.natAbs < 10 ^ 100) ∧ (∀ H', But r H H' → RdAt C H' r z rest (k + l.length) many u res dx → Q y H')
section
variable {P : Program} {w : World} {K : PySem.W.Frag} {mg : Str → Option Value} {base : Heap} {ad : Nm → Addr} {dd : Nm → FuncData}
theorem scRN : FnScope ["self", "begin", "end"] ["self"] (defScope sRN) := ⟨rfl, rfl, rfl, by decide +kernel, rfl, by decide +kernel, by decide +kernel⟩
theorem ok_rn (T : Txt K mg ad dd) : FnOk P w K mg base CX0 2 (ad .RN) (dd .RN) ["self"] (spRN (ad .Reader)) := by
  have GRF := ok_rf (P := P) (w := w) (base := base) T
  refine T.RN.F.ok scRN (fun vs H Q E h => ?_) (fun cdv A outer s H vs Q E hr h => ?_)
  · obtain ⟨r, dx, z, l, rest, k, many, u, res, y, rfl, _⟩ := h
    rfl
  obtain ⟨r, dx, z, l, rest, k, many, u, res, y, rfl, ⟨hr0, hd, hz⟩, nd, hl, q⟩ := h
  refine ⟨_, (pss_cons (ps_set (i := 1) scRN.nd rfl (Or.inl rfl) (pe_fld (pv 0) rfl))
      (Evl.pss_cut (ps_if (pt_cmpR op_eq (pe_meth0 (pv 0) T.cl T.RF.M GRF (hr.mono (by first | decide | omega)) T.RF.b .nil pass0) pe_str (nomark _)) (pss_cons (ps_fldaug (pv 0) pe_int in_add)
      (pss_one (ps_if (pt_not (pt_chain op_le_str op_le_str pe_str (pe_meth0 (pv 0) T.cl T.RF.M GRF (hr.mono (by first | decide | omega)) T.RF.b .nil pass0) pe_str)) (pss_one (ps_ret pe_non)) pss_nil))) (pss_one (ps_if (pt_cmpR op_eq (pe_meth0 (pv 0) T.cl T.RF.M GRF (hr.mono (by first | decide | omega)) T.RF.b .nil pass0) pe_str (nomark _)) (pss_cons (ps_fldaug (pv 0) pe_int in_add)
      (pss_one (ps_ret pe_int))) pss_nil)))
      (pss_cons (ps_set (i := 2) scRN.nd rfl (Or.inl rfl) (pe_op op_add (pe_fld (pv 0) rfl) (pe_gint rfl T.gMOST_DIGITS)))
      (pss_cons (ps_while PassesOwn.never (PW.pt (pw_and (pt_cmpR op_lt (pe_fld (pv 0) rfl) (pv 2) (nomark _)) (pw_and1 (pt_chain op_le_str op_le_str pe_str (pe_meth0 (pv 0) T.cl T.RF.M GRF (hr.mono (by first | decide | omega)) T.RF.b .nil pass0) pe_str)))) (pss_one (ps_fldaug (pv 0) pe_int in_add)))
      (pss_one (ps_ret (pe_callTy call_int_str (by rfl) T.n_int bt_int (pa_cons (pe_slice sl_str (pe_fld (pv 0) rfl) (po_some (pv 1)) (po_some (pe_fld (pv 0) rfl))) pa_nil)))))))), ?_⟩
  refine ⟨_, rfl, r, _, dx, _, _, rfl, hr0, T.cl, T.aAt, rf_at, ?_⟩
  have put : ∀ j, But r H (upd H r (.ins (ad .Reader) dx (rf z j many u res))) := fun j => But.put
  refine ⟨fun σ' H' => ∃ (n : Nat) (i : Int) (p : Nat), σ' = [some (.ref r), some (.int (k : Int)), none] ∧ But r H H' ∧ RdAt (ad .Reader) H' r z (TL.numL n ++ rest) p many u res dx ∧ y = .int i ∧ l = intL i ∧ i.natAbs = n ∧ n < 10 ^ 100 ∧ p + (TL.numL n).length = k + l.length, ?_, ?_⟩
  · refine ⟨_, rfl, r, dx, _, rfl, hr0, rf_following, r, dx, z, _, _, many, u, res, rfl, ⟨hr0, hd, hz⟩, rfl, _, rfl, ?_⟩
    have neg : ∀ rest', z.drop k = 45 :: rest' → RdAt (ad .Reader) (upd H r (.ins (ad .Reader) dx (rf z (k + 1) many u res))) r z rest' (k + 1) many u res dx := fun rest' e => ⟨upd_same, drop_tail e, hz⟩
    rcases hl with ⟨rfl, rfl⟩ | ⟨i, rfl, rfl, hi⟩
    · rw [e45, show List.take 1 ([45] ++ rest) = [45] from rfl, str_eq]
      refine iteT ⟨_, rfl, r, _, dx, _, _, rfl, hr0, T.cl, T.aAt, rf_at, _, _, rfl, rfl, dx, _, hr0, rf_len, ?_⟩
      rw [show ((k : Nat) : Int) + 1 = ((k + 1 : Nat) : Int) by omega, rfp_at]
      have h2 := neg rest hd
      have fin := q _ (put _) h2
      refine ⟨_, rfl, r, dx, _, rfl, h2.1, rf_following, r, dx, z, _, _, many, u, res, rfl, h2, ?_⟩
      refine ⟨_, _, rfl, rfl, ?_⟩
      rw [e49]
      cases rest with
      | nil =>
        rw [show List.take 1 ([] : List Nat) = [] from rfl, le_ce]
        exact ⟨_, rfl, iteF ⟨_, rfl, iteT fin⟩⟩
      | cons c rs =>
        rw [take1, le_cc]
        refine ⟨_, rfl, ite2 (fun c1 => ⟨_, _, rfl, rfl, _, rfl, ?_⟩) (fun c1 => ⟨_, rfl, iteT fin⟩)⟩
        have c1' := of_decide_eq_true c1
        have c2 := nd c rs rfl
        rw [e57, le_cc, decide_eq_false (show ¬ c ≤ 57 by omega)]
        exact iteT fin
    · cases i with
      | negSucc m =>
        obtain ⟨d, ds, e, d1, d2⟩ := numL_head (m + 1) (Nat.succ_pos m)
        rw [intL_neg] at hd q ⊢
        rw [e45, show List.take 1 ((45 :: TL.numL (m + 1)) ++ rest) = [45] from rfl, str_eq]
        refine iteT ⟨_, rfl, r, _, dx, _, _, rfl, hr0, T.cl, T.aAt, rf_at, _, _, rfl, rfl, dx, _, hr0, rf_len, ?_⟩
        rw [show ((k : Nat) : Int) + 1 = ((k + 1 : Nat) : Int) by omega, rfp_at]
        have h2 := neg (TL.numL (m + 1) ++ rest) hd
        refine ⟨_, rfl, r, dx, _, rfl, h2.1, rf_following, r, dx, z, _, _, many, u, res, rfl, h2, ?_⟩
        refine ⟨_, _, rfl, rfl, ?_⟩
        rw [e49, e, show List.take 1 (d :: ds ++ rest) = [d] from rfl, le_cc, decide_eq_true d1]
        refine ⟨_, rfl, iteT ⟨_, _, rfl, rfl, ?_⟩⟩
        rw [e57, le_cc, decide_eq_true d2]
        refine ⟨_, rfl, iteF ?_⟩
        exact ⟨m + 1, _, k + 1, rfl, put _, h2, rfl, by rw [intL_neg, e], rfl, hi, by rw [e, List.length_cons (a := 45)]; omega⟩
      | ofNat n =>
        have e0 : intL (Int.ofNat n) = TL.numL n := intL_nat n
        by_cases n0 : n = 0
        · subst n0
          have e1 : TL.numL 0 = [48] := TL.numL_lt (by decide)
          rw [e0, e1] at hd q ⊢
          rw [e45, show List.take 1 ([48] ++ rest) = [48] from rfl, str_ne (by decide)]
          refine iteF ⟨_, rfl, r, dx, _, rfl, hr0, rf_following, r, dx, z, _, _, many, u, res, rfl, ⟨hr0, hd, hz⟩, rfl, _, rfl, ?_⟩
          rw [e48, show List.take 1 ([48] ++ rest) = [48] from rfl, str_eq]
          refine iteT ⟨_, rfl, r, _, dx, _, _, rfl, hr0, T.cl, T.aAt, rf_at, _, _, rfl, rfl, dx, _, hr0, rf_len, ?_⟩
          rw [show ((k : Nat) : Int) + 1 = ((k + 1 : Nat) : Int) by omega, rfp_at]
          exact q _ (put _) ⟨upd_same, drop_tail hd, hz⟩
        · obtain ⟨d, ds, e, d1, d2⟩ := numL_head n (by omega)
          have hd' := hd
          rw [e0] at q ⊢
          rw [e0, e] at hd'
          have e45' : List.take 1 (TL.numL n ++ rest) = [d] := by rw [e]; rfl
          rw [e45, e45', str_ne (by intro z; cases z; omega)]
          refine iteF ⟨_, rfl, r, dx, _, rfl, hr0, rf_following, r, dx, z, _, _, many, u, res, rfl, ⟨hr0, hd, hz⟩, rfl, _, rfl, ?_⟩
          rw [e0, e48, e45', str_ne (by intro z; cases z; omega)]
          refine iteF ?_
          exact ⟨n, _, k, rfl, But.refl _ _, ⟨hr0, by rw [← e0]; exact hd, hz⟩, rfl, e0.symm, rfl, hi, rfl⟩
  · rintro σ' H' ⟨n, i, p, rfl, b1, ⟨h1, h2, h3⟩, rfl, rfl, hi, hn, hp⟩
    have nl : (TL.numL n).length ≤ 100 := TL.numL_len (by decide) hn
    have zl : (TL.numL n).length + rest.length = z.length - p := by rw [← List.length_append, ← h2, List.length_drop]
    have zk : (intL i).length + rest.length = z.length - k := by rw [← List.length_append, ← hd, List.length_drop]
    have np : 0 < (TL.numL n).length := by
      cases e : TL.numL n with
      | nil => exact absurd e (TL.numL_ne n)
      | cons a b => exact Nat.succ_pos _
    refine ⟨_, rfl, r, _, dx, _, _, rfl, h1, T.cl, T.aAt, rf_at, _, _, rfl, rfl, ?_⟩
    refine ⟨fun m σ H2 => m ≤ (TL.numL n).length ∧ σ = [some (.ref r), some (.int (k : Int)), some (.int ((p : Int) + 100))] ∧ But r H H2 ∧ RdAt (ad .Reader) H2 r z ((TL.numL n).drop ((TL.numL n).length - m) ++ rest) (p + ((TL.numL n).length - m)) many u res dx,
      ⟨(TL.numL n).length, Nat.le_refl _, rfl, b1, by rw [Nat.sub_self, Nat.add_zero, List.drop_zero]; exact ⟨h1, h2, h3⟩⟩, ?_⟩
    rintro m σ H2 ⟨hm, rfl, b2, ⟨g1, g2, g3⟩⟩
    refine ⟨_, rfl, r, _, dx, _, _, rfl, g1, T.cl, T.aAt, rf_at, _, rfl, _, _, rfl, rfl, _, rfl, ?_⟩
    have at0 : ∀ H3, But r H H3 → RdAt (ad .Reader) H3 r z rest (p + (TL.numL n).length) many u res dx → m = 0 → H3 r = some (.ins (ad .Reader) dx (rf z (k + (intL i).length) many u res)) ∧ Q (.int i) H3 := by
      intro H3 b3 g e
      rw [hp] at g
      exact ⟨g.1, q H3 b3 g⟩
    have it : PySem.intText? (S (intL i)) = some i := by
      have len : (S (intL i)).length ≤ 4300 := by rw [S_len]; have := intL_len (i := i) (by rw [hi]; exact hn); omega
      cases i with
      | ofNat n' =>
        have e : (S (intL (Int.ofNat n'))).cps.toList = TL.numL n' := intL_nat n'
        rw [PySem.intText_digits (by rw [e]; exact TL.numL_digits n') (by rw [e]; exact TL.numL_ne n') len, e, TL.numL_val]
        rfl
      | negSucc m' =>
        have e : (S (intL (Int.negSucc m'))).cps.toList = 45 :: TL.numL (m' + 1) := intL_neg m'
        rw [PySem.intText_neg e (TL.numL_digits (m' + 1)) (TL.numL_ne _) len, TL.numL_val]
        rfl
    have kl : k ≤ z.length := by
      rcases Nat.lt_or_ge k z.length with hh | hh
      · exact Nat.le_of_lt hh
      · rw [show z.length - k = 0 by omega] at zk
        have := np
        omega
    have cm := cut_mid hd rfl kl
    have nl2 := intL_len (i := i) (by rw [hi]; exact hn)
    refine ite2 (fun c1 => ⟨_, rfl, r, dx, _, rfl, g1, rf_following, r, dx, z, _, _, many, u, res, rfl, ⟨g1, g2, g3⟩, _, _, rfl, rfl, ?_⟩) (fun c1 => iteF ?_)
    · rw [e48]
      cases m with
      | zero =>
        rw [Nat.sub_zero] at g1 g2
        rw [List.drop_length, List.nil_append] at g2
        obtain ⟨f1, f2⟩ := at0 H2 b2 ⟨g1, g2, g3⟩ rfl
        have ef : (!decide ((S (List.take 1 ((TL.numL n).drop ((TL.numL n).length - 0) ++ rest))).cps.toList < (S [48]).cps.toList)) = true → (!decide ((S [57]).cps.toList < (S (List.take 1 ((TL.numL n).drop ((TL.numL n).length - 0) ++ rest))).cps.toList)) = false := by
          rw [Nat.sub_zero, List.drop_length, List.nil_append]
          cases rest with
          | nil => rw [show List.take 1 ([] : List Nat) = [] from rfl, le_ce]; intro z; cases z
          | cons c rs =>
            rw [take1, le_cc, le_cc]
            intro z
            have z' := of_decide_eq_true z
            have := nd c rs rfl
            exact decide_eq_false (by omega)
        refine ⟨_, rfl, ite2 (fun c2 => ⟨_, _, rfl, rfl, ?_⟩) (fun c2 => ⟨_, rfl, iteF ?_⟩)⟩
        · rw [e57, ef c2]
          refine ⟨_, rfl, iteF ?_⟩
          refine ⟨_, rfl, r, _, dx, _, _, rfl, f1, T.cl, T.aText, rf_text, _, rfl, _, rfl, _, rfl, r, _, dx, _, _, rfl, f1, T.cl, T.aAt, rf_at, _, rfl, S z, rfl, by rw [S_len]; exact g3, ?_⟩
          rw [cm]
          exact ⟨_, _, rfl, it, by rw [S_len]; omega, f2⟩
        · refine ⟨_, rfl, r, _, dx, _, _, rfl, f1, T.cl, T.aText, rf_text, _, rfl, _, rfl, _, rfl, r, _, dx, _, _, rfl, f1, T.cl, T.aAt, rf_at, _, rfl, S z, rfl, by rw [S_len]; exact g3, ?_⟩
          rw [cm]
          exact ⟨_, _, rfl, it, by rw [S_len]; omega, f2⟩
      | succ m =>
        have hlt : (TL.numL n).length - (m + 1) < (TL.numL n).length := by omega
        have hdl : (TL.numL n).drop ((TL.numL n).length - (m + 1)) = (TL.numL n)[(TL.numL n).length - (m + 1)] :: (TL.numL n).drop ((TL.numL n).length - m) := by
          rw [List.drop_eq_getElem_cons hlt, show (TL.numL n).length - (m + 1) + 1 = (TL.numL n).length - m by omega]
        have hdg := TL.numL_digits n _ (List.getElem_mem hlt)
        generalize (TL.numL n)[(TL.numL n).length - (m + 1)] = c at hdl hdg
        rw [hdl] at g2
        rw [hdl, show List.take 1 (c :: (TL.numL n).drop ((TL.numL n).length - m) ++ rest) = [c] from rfl, le_cc, decide_eq_true hdg.1]
        refine ⟨_, rfl, iteT ⟨_, _, rfl, rfl, ?_⟩⟩
        rw [e57, le_cc, decide_eq_true hdg.2]
        refine ⟨_, rfl, iteT ?_⟩
        refine ⟨fun σ' H'' => ∃ m', m' < m + 1 ∧ m' ≤ (TL.numL n).length ∧ σ' = [some (.ref r), some (.int (k : Int)), some (.int ((p : Int) + 100))] ∧ But r H H'' ∧ RdAt (ad .Reader) H'' r z ((TL.numL n).drop ((TL.numL n).length - m') ++ rest) (p + ((TL.numL n).length - m')) many u res dx, fun _ _ z => z, ?_⟩
        refine ⟨_, rfl, r, _, dx, _, _, rfl, g1, T.cl, T.aAt, rf_at, _, _, rfl, rfl, dx, _, g1, rf_len, ?_⟩
        rw [show ((p + ((TL.numL n).length - (m + 1)) : Nat) : Int) + 1 = ((p + ((TL.numL n).length - m) : Nat) : Int) by omega, rfp_at]
        refine ⟨m, Nat.lt_succ_self m, by omega, rfl, But.trans b2 But.put, upd_same, ?_, g3⟩
        rw [show p + ((TL.numL n).length - m) = p + ((TL.numL n).length - (m + 1)) + 1 by omega]
        exact drop_tail g2
    · have c1' := of_decide_eq_false (Bool.eq_false_iff.mpr c1)
      have m0 : m = 0 := by omega
      subst m0
      rw [Nat.sub_zero] at g1 g2
      rw [List.drop_length, List.nil_append] at g2
      obtain ⟨f1, f2⟩ := at0 H2 b2 ⟨g1, g2, g3⟩ rfl
      refine ⟨_, rfl, r, _, dx, _, _, rfl, f1, T.cl, T.aText, rf_text, _, rfl, _, rfl, _, rfl, r, _, dx, _, _, rfl, f1, T.cl, T.aAt, rf_at, _, rfl, S z, rfl, by rw [S_len]; exact g3, ?_⟩
      rw [cm]
      exact ⟨_, _, rfl, it, by rw [S_len]; omega, f2⟩
end
end TK
namespace TK
open PySem L2
/-! ### a string is read -/
def spRQ (C : Addr) : Sp := fun vs H Q _ => ∃ (r dx : Addr) (z x rest : List Nat) (k many : Nat) (u : Addr) (res : V), vs = [.ref r] ∧ RdAt C H r z (34 :: (esc x ++ 34 :: rest)) k many u res dx ∧
  x.all plainC = true ∧ x.length ≤ 1000 ∧ (∀ H', But r H H' → RdAt C H' r z rest (k + ((esc x).length + 2)) many u res dx → Q (.str (S x)) H')
section
variable {P : Program} {w : World} {K : PySem.W.Frag} {mg : Str → Option Value} {base : Heap} {ad : Nm → Addr} {dd : Nm → FuncData}
theorem scRQ : FnScope ["self", "pieces", "sign"] ["self"] (defScope sRQ) := ⟨rfl, rfl, rfl, by decide +kernel, rfl, by decide +kernel, by decide +kernel⟩
theorem ok_rq (T : Txt K mg ad dd) : FnOk P w K mg base CX0 2 (ad .RQ) (dd .RQ) ["self"] (spRQ (ad .Reader)) := by
  have GRF := ok_rf (P := P) (w := w) (base := base) T
  have GPlain := ok_plain (P := P) (w := w) (base := base) T
  refine T.RQ.F.ok scRQ (fun vs H Q E h => ?_) (fun cdv A outer s H vs Q E hr h => ?_)
  · obtain ⟨r, dx, z, x, rest, k, many, u, res, rfl, _⟩ := h
    rfl
  obtain ⟨r, dx, z, x, rest, k, many, u, res, rfl, ⟨hr0, hd, hz⟩, hx, xl, q⟩ := h
  have hzl : sizeLine = 16777216 := sizeLine_eq
  refine ⟨_, (pss_cons (ps_fldaug (pv 0) pe_int in_add)
      (pss_cons (ps_set (i := 1) scRQ.nd rfl (Or.inl rfl) (pe_lst pa_nil))
      (pss_cons (ps_while PassesOwn.never (pt_cmpR op_ne (pe_meth0 (pv 0) T.cl T.RF.M GRF (hr.mono (by first | decide | omega)) T.RF.b .nil pass0) pe_str (nomark _)) (pss_cons (ps_set (i := 2) scRQ.nd rfl (Or.inl rfl) (pe_meth0 (pv 0) T.cl T.RF.M GRF (hr.mono (by first | decide | omega)) T.RF.b .nil pass0))
      (Evl.pss_cut (ps_if (pt_cmpR op_eq (pv 2) pe_str (nomark _)) (pss_cons (ps_fldaug (pv 0) pe_int in_add)
      (pss_cons (ps_set (i := 2) scRQ.nd rfl (Or.inl rfl) (pe_meth0 (pv 0) T.cl T.RF.M GRF (hr.mono (by first | decide | omega)) T.RF.b .nil pass0))
      (pss_one (ps_if (PW.pt (pw_and (pt_cmpR op_ne (pv 2) pe_str (nomark _)) (pw_and1 (pt_cmpR op_ne (pv 2) pe_str (nomark _))))) (pss_one ps_never) pss_nil)))) (pss_one (ps_if (pt_not (pt_val (pe_call GPlain (hr.mono (by first | decide | omega)) rfl T.Plain.m T.Plain.F.kp T.Plain.b .nil pass0 (pa_cons (pv 2) pa_nil)) (fun _ => rfl))) (pss_one ps_never) pss_nil)))
      (pss_cons (ps_expr (pe_bm PySem.F.plainAttrs_list PySem.F.slot_list_append PySem.F.type_list_append mt_append (pv 1) (pa_cons (pv 2) pa_nil)))
      (pss_one (ps_fldaug (pv 0) pe_int in_add))))))
      (pss_cons (ps_fldaug (pv 0) pe_int in_add)
      (pss_one (ps_ret (pe_join pe_str (pv 1)))))))), ?_⟩
  refine ⟨_, rfl, r, _, dx, _, _, rfl, hr0, T.cl, T.aAt, rf_at, _, _, rfl, rfl, dx, _, hr0, rf_len, ?_⟩
  rw [show ((k : Nat) : Int) + 1 = ((k + 1 : Nat) : Int) by omega, rfp_at]
  have R1 : RdAt (ad .Reader) (upd H r (.ins (ad .Reader) dx (rf z (k + 1) many u res))) r z (esc x ++ 34 :: rest) (k + 1) many u res dx := ⟨upd_same, drop_tail hd, hz⟩
  have B1 : But r H (upd H r (.ins (ad .Reader) dx (rf z (k + 1) many u res))) := But.put
  generalize upd H r (.ins (ad .Reader) dx (rf z (k + 1) many u res)) = H1 at R1 B1
  refine ⟨Nat.zero_le _, fun p hp => ?_⟩
  have npr : p ≠ r := fun e => by rw [e, R1.1] at hp; cases hp
  have hpH : H p = none := by
    cases e : H p with
    | none => rfl
    | some o => exact absurd (B1 p o npr e) (by rw [hp]; intro z; cases z)
  refine ⟨fun m σ H2 => ∃ (xs ys : List Nat) (k2 : Nat) (o : Option V), σ = [some (.ref r), some (.ref p), o] ∧ x = xs ++ ys ∧ m = ys.length ∧ H2 p = some (.lst (xs.map fun c => .str (S [c]))) ∧ But r H H2 ∧
    RdAt (ad .Reader) H2 r z (esc ys ++ 34 :: rest) k2 many u res dx ∧ k2 + (esc ys).length = k + (esc x).length + 1, ⟨x.length, [], x, k + 1, none, rfl, rfl, rfl, upd_same, ?_, ⟨?_, R1.2⟩, by omega⟩, ?_⟩
  · exact fun b o n e => by rw [upd_ne (ne_of_none (B1 b o n e) hp)]; exact B1 b o n e
  · rw [upd_ne npr.symm]; exact R1.1
  rintro m σ H2 ⟨xs, ys, k2, o, rfl, hxy, rfl, hp2, b2, ⟨g1, g2, g3⟩, hk⟩
  refine ⟨_, rfl, r, dx, _, rfl, g1, rf_following, r, dx, z, _, _, many, u, res, rfl, ⟨g1, g2, g3⟩, rfl, _, rfl, ?_⟩
  cases ys with
  | nil =>
    rw [show List.take 1 (esc [] ++ 34 :: rest) = [34] from rfl, e34, str_eq]
    refine iteF ⟨_, rfl, r, _, dx, _, _, rfl, g1, T.cl, T.aAt, rf_at, _, _, rfl, rfl, dx, _, g1, rf_len, ?_⟩
    rw [show ((k2 : Nat) : Int) + 1 = ((k2 + 1 : Nat) : Int) by omega, rfp_at]
    have g4 : z.drop (k2 + 1) = rest := drop_tail g2
    have ek : k2 + 1 = k + ((esc x).length + 2) := by
      have : (esc []).length = 0 := rfl
      omega
    rw [List.append_nil] at hxy
    subst hxy
    have fl : (x.map fun c => [c]).flatten = x := by
      have h : ∀ l : List Nat, (l.map fun c => [c]).flatten = l := fun l => by
        induction l with
        | nil => rfl
        | cons a b ih => rw [List.map_cons, List.flatten_cons, ih]; rfl
      exact h x
    have c0 : (Str.ofString "").length = 0 := by decide +kernel
    refine ⟨⟨_, rfl⟩, _, rfl, _, p, (x.map fun c => [c]).map S, rfl, rfl, .inl (SqL.of (by rw [upd_ne npr, List.map_map, List.map_map]; exact hp2)), ?_, ?_⟩
    · rw [sum_S, List.length_map, c0, ← List.length_flatten, fl]
      omega
    · rw [join_flat, fl]
      refine q _ (But.trans b2 But.put) ⟨?_, by rw [← ek]; exact g4, g3⟩
      rw [upd_same, ek]
  | cons c ys =>
    have hc : plainC c = true := by
      rw [hxy, List.all_append, List.all_cons, Bool.and_eq_true, Bool.and_eq_true] at hx
      exact hx.2.1
    have ll : x.length = xs.length + (ys.length + 1) := by rw [hxy, List.length_append, List.length_cons]
    have pre : ∀ (a : Nat) l, List.take 1 (a :: l) = [a] := fun a l => rfl
    have hc34 : ∃ (a : Nat) (l : List Nat), esc (c :: ys) ++ 34 :: rest = a :: l ∧ a ≠ 34 ∧ ((a = 92 ∧ (c = 92 ∨ c = 34) ∧ l = c :: (esc ys ++ 34 :: rest) ∧ (esc (c :: ys)).length = (esc ys).length + 2) ∨ (a = c ∧ c ≠ 92 ∧ l = esc ys ++ 34 :: rest ∧ (esc (c :: ys)).length = (esc ys).length + 1)) := by
      show ∃ (a : Nat) (l : List Nat), ((if c = 92 then [92, 92] else if c = 34 then [92, 34] else [c]) ++ esc ys) ++ 34 :: rest = a :: l ∧ a ≠ 34 ∧ ((a = 92 ∧ (c = 92 ∨ c = 34) ∧ l = c :: (esc ys ++ 34 :: rest) ∧ ((if c = 92 then [92, 92] else if c = 34 then [92, 34] else [c]) ++ esc ys).length = (esc ys).length + 2) ∨ (a = c ∧ c ≠ 92 ∧ l = esc ys ++ 34 :: rest ∧ ((if c = 92 then [92, 92] else if c = 34 then [92, 34] else [c]) ++ esc ys).length = (esc ys).length + 1))
      by_cases h1 : c = 92
      · rw [if_pos h1, h1]
        exact ⟨_, _, rfl, by decide, .inl ⟨rfl, .inl rfl, rfl, rfl⟩⟩
      · rw [if_neg h1]
        by_cases h2 : c = 34
        · rw [if_pos h2, h2]
          exact ⟨_, _, rfl, by decide, .inl ⟨rfl, .inr rfl, rfl, rfl⟩⟩
        · rw [if_neg h2]
          exact ⟨_, _, rfl, h2, .inr ⟨rfl, h1, rfl, rfl⟩⟩
    obtain ⟨a, l, hal, ha34, cs⟩ := hc34
    rw [hal] at g2
    rw [hal, pre, e34, str_ne (by intro q; cases q; exact ha34 rfl)]
    refine iteT ⟨fun σ' H'' => ∃ m', m' < (c :: ys).length ∧ ∃ (xs ys : List Nat) (k2 : Nat) (o : Option V), σ' = [some (.ref r), some (.ref p), o] ∧ x = xs ++ ys ∧ m' = ys.length ∧ H'' p = some (.lst (xs.map fun c => .str (S [c]))) ∧ But r H H'' ∧
    RdAt (ad .Reader) H'' r z (esc ys ++ 34 :: rest) k2 many u res dx ∧ k2 + (esc ys).length = k + (esc x).length + 1, fun _ _ z => z, ?_⟩
    refine ⟨_, rfl, r, dx, _, rfl, g1, rf_following, r, dx, z, _, _, many, u, res, rfl, ⟨g1, g2, g3⟩, ?_⟩
    rw [pre]
    refine ⟨fun σ' H3 => σ' = [some (.ref r), some (.ref p), some (.str (S [c]))] ∧ But r H H3 ∧ H3 p = some (.lst (xs.map fun c => .str (S [c]))) ∧ ∃ k3, RdAt (ad .Reader) H3 r z (c :: (esc ys ++ 34 :: rest)) k3 many u res dx ∧ k3 + (esc ys).length = k + (esc x).length, ?_, ?_⟩
    · refine ⟨_, rfl, rfl, _, rfl, ?_⟩
      rcases cs with ⟨rfl, hcc, rfl, el⟩ | ⟨rfl, hcc, rfl, el⟩
      · rw [e92, str_eq]
        refine iteT ⟨_, rfl, r, _, dx, _, _, rfl, g1, T.cl, T.aAt, rf_at, _, _, rfl, rfl, dx, _, g1, rf_len, ?_⟩
        rw [show ((k2 : Nat) : Int) + 1 = ((k2 + 1 : Nat) : Int) by omega, rfp_at]
        have R3 : RdAt (ad .Reader) (upd H2 r (.ins (ad .Reader) dx (rf z (k2 + 1) many u res))) r z (c :: (esc ys ++ 34 :: rest)) (k2 + 1) many u res dx := ⟨upd_same, drop_tail g2, hz⟩
        have P3 : (upd H2 r (.ins (ad .Reader) dx (rf z (k2 + 1) many u res))) p = some (.lst (xs.map fun c => .str (S [c]))) := by rw [upd_ne npr]; exact hp2
        refine ⟨_, rfl, r, dx, _, rfl, R3.1, rf_following, r, dx, z, _, _, many, u, res, rfl, R3, ?_⟩
        refine ⟨_, rfl, rfl, _, rfl, ?_⟩
        rw [pre]
        rcases hcc with rfl | rfl
        · rw [str_ne (by decide)]
          refine iteT ⟨_, rfl, rfl, _, rfl, ?_⟩
          rw [str_eq]
          exact iteF ⟨rfl, But.trans b2 But.put, P3, k2 + 1, R3, by omega⟩
        · rw [str_eq]
          exact iteF ⟨rfl, But.trans b2 But.put, P3, k2 + 1, R3, by omega⟩
      · rw [e92, str_ne (by intro q; cases q; exact hcc rfl)]
        refine iteF ⟨_, rfl, a, rfl, hc, _, rfl, iteF ?_⟩
        exact ⟨rfl, b2, hp2, k2, ⟨g1, g2, g3⟩, by omega⟩
    · rintro σ' H3 ⟨rfl, b3, p3, k3, ⟨f1, f2, f3⟩, hk3⟩
      refine ⟨_, rfl, .inl ⟨rfl, _, .inl (.inl p3)⟩, _, rfl, p, _, _, rfl, rfl, p3, by rw [List.length_map]; omega, ?_⟩
      have f1' : (upd H3 p (.lst (xs.map (fun c => V.str (S [c])) ++ [.str (S [c])]))) r = some (.ins (ad .Reader) dx (rf z k3 many u res)) := by rw [upd_ne npr.symm]; exact f1
      refine ⟨_, rfl, r, _, dx, _, _, rfl, f1', T.cl, T.aAt, rf_at, _, _, rfl, rfl, dx, _, f1', rf_len, ?_⟩
      rw [show ((k3 : Nat) : Int) + 1 = ((k3 + 1 : Nat) : Int) by omega, rfp_at]
      refine ⟨ys.length, Nat.lt_succ_self _, xs ++ [c], ys, k3 + 1, _, rfl, by rw [hxy, List.append_assoc]; rfl, rfl, ?_, ?_, ⟨upd_same, drop_tail f2, f3⟩, by omega⟩
      · rw [upd_ne npr, upd_same, List.map_append]; rfl
      · exact But.trans (fun b o n e => by rw [upd_ne (ne_of_none e hpH)]; exact b3 b o n e) But.put
end
end TK
namespace TK
open PySem L2
/-! ### what is open: parts that are done, parts that follow; the innermost first -/
abbrev Frs := List (List PyData × List PyData)
/-- the text behind a part -/
def tl : Frs → List Nat
  | [] => []
  | (_, ts) :: fs => (ts.map fun t => 32 :: wr t).flatten ++ 41 :: tl fs
/-- the text at the begin of a turn -/
def cur : Frs → List Nat
  | [] => []
  | ([], ts) :: fs => TL.joinL [32] (wrs ts) ++ 41 :: tl fs
  | (d :: ds, ts) :: fs => tl ((d :: ds, ts) :: fs)
def plug : PyData → Frs → PyData
  | t, [] => t
  | t, (ds, ts) :: fs => plug (.tuple (ds ++ t :: ts)) fs
def okFs : Frs → Prop
  | [] => True
  | (_, ts) :: fs => gds ts = true ∧ dps ts + (fs.length + 1) ≤ 30 ∧ okFs fs
def more : Frs → Nat
  | [] => 0
  | (_, ts) :: fs => ptss ts + more fs
/-- the lists of what is done -/
inductive FrAt (H0 H : Hp) (u : Addr) : List Addr → Frs → Prop
  | nil : FrAt H0 H u [] []
  | cons {l : Addr} {ls : List Addr} {vs : List V} {ds ts : List PyData} {fs : Frs} : l ∉ ls → l ≠ u → H0 l = none → H l = some (.lst vs) → TrAll H vs ds → FrAt H0 H u ls fs → FrAt H0 H u (l :: ls) ((ds, ts) :: fs)
theorem FrAt.len {H0 H : Hp} {u : Addr} : ∀ {ls : List Addr} {fs : Frs}, FrAt H0 H u ls fs → ls.length = fs.length
  | _, _, .nil => rfl
  | _, _, .cons _ _ _ _ _ h => congrArg (· + 1) (FrAt.len h)
theorem FrAt.lst {H0 H : Hp} {u a : Addr} : ∀ {ls : List Addr} {fs : Frs}, FrAt H0 H u ls fs → a ∈ ls → ∃ vs, H a = some (.lst vs)
  | _, _, .nil, h => by cases h
  | _, _, .cons _ _ _ h1 _ h, m => by
    rcases List.mem_cons.mp m with e | m
    · rw [e]; exact ⟨_, h1⟩
    · exact FrAt.lst h m
/-- all lists that are listed stay, all tuples stay -/
theorem FrAt.keep {H0 H H' : Hp} {u : Addr} (s : Tups H H') : ∀ {ls : List Addr} {fs : Frs}, (∀ l ∈ ls, ∀ vs, H l = some (.lst vs) → H' l = some (.lst vs)) → FrAt H0 H u ls fs → FrAt H0 H' u ls fs
  | _, _, _, .nil => .nil
  | _, _, k, .cons h1 h2 h3 h4 h5 h6 => .cons h1 h2 h3 (k _ List.mem_cons_self _ h4) (TrAll.keep s _ _ h5) (FrAt.keep s (fun l m vs e => k l (List.mem_cons_of_mem _ m) vs e) h6)
theorem FrAt.same {H0 H H' : Hp} {u : Addr} {ls : List Addr} {fs : Frs} (s : Same H H') (h : FrAt H0 H u ls fs) : FrAt H0 H' u ls fs := h.keep (Tups.of_same s) fun _ _ _ e => s _ _ e
theorem tups_but {H H' : Hp} {r C dx : Addr} {fl : List (Str × V)} (b : But r H H') (h : H r = some (.ins C dx fl)) : Tups H H' := fun a xs e => b a _ (ne_of e h (by intro q; cases q)) e
theorem FrAt.but {H0 H H' : Hp} {u r C dx : Addr} {fl : List (Str × V)} {ls : List Addr} {fs : Frs} (b : But r H H') (h : H r = some (.ins C dx fl)) (q : FrAt H0 H u ls fs) : FrAt H0 H' u ls fs :=
  q.keep (tups_but b h) fun l _ vs e => b l _ (ne_of e h (by intro q; cases q)) e
/-- the reader between two parts -/
structure RIn (C : Addr) (H0 H : Hp) (r u : Addr) (z rest : List Nat) (fs : Frs) (k many : Nat) (res : V) (dx : Addr) (ls : List Addr) : Prop where
  rd : RdAt C H r z rest k many u res dx
  r0 : H0 r = none
  u0 : H0 u = none
  sm : Same H0 H
  un : H u = some (.lst (ls.map V.ref).reverse)
  fr : FrAt H0 H u ls fs
  ok : okFs fs
theorem RIn.but {C : Addr} {H0 H H' : Hp} {r u : Addr} {z rest rest' : List Nat} {fs : Frs} {k many k' many' : Nat} {res res' : V} {dx : Addr} {ls : List Addr} (I : RIn C H0 H r u z rest fs k many res dx ls) (b : But r H H')
    (g : RdAt C H' r z rest' k' many' u res' dx) : RIn C H0 H' r u z rest' fs k' many' res' dx ls :=
  ⟨g, I.r0, I.u0, fun a o e => b a o (ne_of_none e I.r0) (I.sm _ _ e), b _ _ (ne_of I.un I.rd.1 (by intro q; cases q)) I.un, I.fr.but b I.rd.1, I.ok⟩
theorem RIn.keep {C : Addr} {H0 H H' : Hp} {r u : Addr} {z rest : List Nat} {fs : Frs} {k many : Nat} {res : V} {dx : Addr} {ls : List Addr} (I : RIn C H0 H r u z rest fs k many res dx ls) (s : Same H H') :
    RIn C H0 H' r u z rest fs k many res dx ls :=
  ⟨⟨s _ _ I.rd.1, I.rd.2⟩, I.r0, I.u0, fun a o e => s _ _ (I.sm _ _ e), s _ _ I.un, I.fr.same s, I.ok⟩
/-- the tree, as far as it is read -/
def done (H : Hp) (res : V) (T : PyData) : Frs → Prop
  | [] => Tr H res T
  | (ds, ts) :: fs => plug (.tuple (ds ++ ts)) fs = T
def RSt (C : Addr) (H0 H : Hp) (r u : Addr) (z : List Nat) (T : PyData) (fs : Frs) : Prop := ∃ (k many : Nat) (res : V) (dx : Addr) (ls : List Addr), RIn C H0 H r u z (cur fs) fs k many res dx ls ∧ many + more fs ≤ 2000 ∧ done H res T fs
def RPre (C : Addr) (H0 H : Hp) (r u : Addr) (z : List Nat) (T t : PyData) (fs : Frs) : Prop := ∃ (k many : Nat) (res : V) (dx : Addr) (ls : List Addr), RIn C H0 H r u z (wr t ++ tl fs) fs k many res dx ls ∧ many + pts t + more fs ≤ 2000 ∧ gd t = true ∧ dp t + fs.length ≤ 30 ∧ plug t fs = T
theorem tl_nodig : ∀ fs : Frs, NoDig (tl fs)
  | [] => fun c r h => by cases h
  | (ds, []) :: fs => fun c r h => by
    have h' : 41 :: tl fs = c :: r := h
    cases h'
    omega
  | (ds, t :: ts) :: fs => fun c r h => by
    have h' : 32 :: ((wr t ++ (ts.map fun t => 32 :: wr t).flatten) ++ 41 :: tl fs) = c :: r := h
    cases h'
    omega
theorem ptss_app : ∀ a b : List PyData, ptss (a ++ b) = ptss a + ptss b
  | [], b => (Nat.zero_add _).symm
  | t :: a, b => by
    show pts t + ptss (a ++ b) = pts t + ptss a + ptss b
    rw [ptss_app a b]; omega
theorem plug_le : ∀ (fs : Frs) (t : PyData), pts t ≤ pts (plug t fs)
  | [], t => Nat.le_refl _
  | (ds, ts) :: fs, t => by
    have h := plug_le fs (.tuple (ds ++ t :: ts))
    have e5 : pts (.tuple (ds ++ t :: ts)) = ptss (ds ++ t :: ts) + 1 := rfl
    have e6 : ptss (t :: ts) = pts t + ptss ts := rfl
    rw [e5, ptss_app, e6] at h
    show pts t ≤ pts (plug (.tuple (ds ++ t :: ts)) fs)
    omega
/-- a part y of the tree t is put into the innermost list, or it is the tree -/
theorem put_end {C : Addr} {H0 H : Hp} {r u : Addr} {z : List Nat} {T t : PyData} {fs : Frs} {k many : Nat} {res y : V} {dx : Addr} {ls : List Addr} (I : RIn C H0 H r u z (tl fs) fs k many res dx ls) (hm : many + more fs ≤ 2000) (ht : Tr H y t) (hT : plug t fs = T) (hp : pts T ≤ 2000) {Q : VK}
    (q : ∀ (H' : Hp) (fs' : Frs), RSt C H0 H' r u z T fs' → cur fs' = tl fs → Q .non H') :
    ∃ us, H u = some (.lst us) ∧ ((us = [] ∧ Q .non (upd H r (.ins C dx (rf z k many u y)))) ∨ ∃ (vs' : List V) (l : Addr) (xs : List V), us = vs' ++ [.ref l] ∧ H l = some (.lst xs) ∧ xs.length < sizeLine ∧ Q .non (upd H l (.lst (xs ++ [y])))) := by
  refine ⟨_, I.un, ?_⟩
  cases fs with
  | nil =>
    have hl := I.fr
    cases hl
    refine .inl ⟨rfl, q _ [] ⟨k, many, y, dx, [], I.but But.put ⟨upd_same, I.rd.2⟩, hm, ?_⟩ rfl⟩
    have hT' : t = T := hT
    rw [← hT']
    exact Tr.keep (tups_but But.put I.rd.1) _ _ ht
  | cons f fs =>
    obtain ⟨ds, ts⟩ := f
    have hl := I.fr
    cases hl with
    | @cons l ls vs _ _ _ h1 h2 h3 h4 h5 h6 =>
    refine .inr ⟨(ls.map V.ref).reverse, l, vs, by rw [List.map_cons, List.reverse_cons], h4, ?_, ?_⟩
    · have e1 := TrAll.length h5
      have e2 := len_ptss (ds ++ t :: ts)
      have e3 := plug_le fs (.tuple (ds ++ t :: ts))
      have e4 : plug (.tuple (ds ++ t :: ts)) fs = T := hT
      have e5 : pts (.tuple (ds ++ t :: ts)) = ptss (ds ++ t :: ts) + 1 := rfl
      have hz : sizeLine = 16777216 := sizeLine_eq
      rw [e4] at e3
      rw [List.length_append, List.length_cons] at e2
      omega
    have tk : Tups H (upd H l (.lst (vs ++ [y]))) := tups_lst h4
    have nr : r ≠ l := ne_of I.rd.1 h4 (by intro q; cases q)
    refine q _ ((ds ++ [t], ts) :: fs) ⟨k, many, res, dx, l :: ls, ⟨?_, I.r0, I.u0, fun a o e => by rw [upd_ne (ne_of_none e h3)]; exact I.sm _ _ e, by rw [upd_ne h2.symm]; exact I.un, ?_, ?_⟩, hm, ?_⟩ ?_
    · refine ⟨by rw [upd_ne nr]; exact I.rd.1, ?_, I.rd.2.2⟩
      have e : cur ((ds ++ [t], ts) :: fs) = tl ((ds, ts) :: fs) := by cases ds <;> rfl
      rw [e]
      exact I.rd.2.1
    · refine .cons h1 h2 h3 upd_same (TrAll.snoc (Tr.keep tk _ _ ht) (TrAll.keep tk _ _ h5)) (h6.keep tk fun a m ws e => ?_)
      rw [upd_ne (fun z => h1 (by rw [← z]; exact m))]
      exact e
    · exact I.ok
    · show plug (.tuple ((ds ++ [t]) ++ ts)) fs = T
      rw [List.append_assoc]
      exact hT
    · cases ds <;> rfl
theorem wr_first : ∀ t : PyData, gd t = true → ∃ c l, wr t = c :: l ∧ c ≠ 41 ∧ (match t with
    | .tuple _ => c = 40
    | .str _ => c = 34
    | .bool true => c = 121
    | .bool false => c = 110
    | .none => c = 45
    | .int _ => c = 45 ∨ (48 ≤ c ∧ c ≤ 57)
    | .list _ => False
    | .dict _ => False)
  | .tuple ts, _ => ⟨40, _, rfl, by decide, rfl⟩
  | .str x, _ => ⟨34, _, rfl, by decide, rfl⟩
  | .bool true, _ => ⟨121, _, rfl, by decide, rfl⟩
  | .bool false, _ => ⟨110, _, rfl, by decide, rfl⟩
  | .none, _ => ⟨45, _, rfl, by decide, rfl⟩
  | .int i, _ => by
    cases i with
    | negSucc m => exact ⟨45, TL.numL (m + 1), intL_neg m, by decide, .inl rfl⟩
    | ofNat n =>
      have e : wr (.int (Int.ofNat n)) = TL.numL n := intL_nat n
      cases h : TL.numL n with
      | nil => exact absurd h (TL.numL_ne n)
      | cons c l =>
        have d := TL.numL_digits n c (by rw [h]; exact List.mem_cons_self)
        exact ⟨c, l, e.trans h, by omega, .inr d⟩
  | .list _, h => by cases h
  | .dict _, h => by cases h
end TK
namespace TK
open PySem L2
/-! ### a part is begun -/
def spRB (C : Addr) : Sp := fun vs H Q _ => ∃ (H0 : Hp) (r u : Addr) (z : List Nat) (T t : PyData) (fs : Frs), vs = [.ref r] ∧ RPre C H0 H r u z T t fs ∧ pts T ≤ 2000 ∧
  ∀ (H' : Hp) (fs' : Frs), RSt C H0 H' r u z T fs' → (cur fs').length < (wr t ++ tl fs).length → Q .non H'
/-- a list more is open -/
theorem put_open {C : Addr} {H0 H : Hp} {r u : Addr} {z : List Nat} {T : PyData} {ts : List PyData} {fs : Frs} {k many : Nat} {res : V} {dx : Addr} {ls : List Addr} (I : RIn C H0 H r u z (TL.joinL [32] (wrs ts) ++ 41 :: tl fs) fs k many res dx ls)
    (hm : many + (ptss ts + more fs) ≤ 2000) (hg : gds ts = true) (hd : dps ts + (fs.length + 1) ≤ 30) (hT : plug (.tuple ts) fs = T) {l : Addr} (hl : H l = none) :
    RSt C H0 (upd (upd H l (.lst [])) u (.lst ((ls.map V.ref).reverse ++ [.ref l]))) r u z T (([], ts) :: fs) := by
  have s1 := same_new hl (.lst [])
  have I1 := I.keep s1
  have L1 : (upd H l (.lst [])) l = some (.lst []) := upd_same
  have nlu : l ≠ u := (ne_of_none I.un hl).symm
  have nls : l ∉ ls := fun m => by
    obtain ⟨vs, e⟩ := I.fr.lst m
    rw [hl] at e; cases e
  have h0 : H0 l = none := I.sm.free hl
  generalize upd H l (.lst []) = H1 at s1 I1 L1
  have tk : Tups H1 (upd H1 u (.lst ((ls.map V.ref).reverse ++ [.ref l]))) := tups_lst I1.un
  have nru : r ≠ u := ne_of I1.rd.1 I1.un (by intro q; cases q)
  have lu : ∀ {ls : List Addr} {fs : Frs}, FrAt H0 H1 u ls fs → ∀ a ∈ ls, a ≠ u := fun h => by
    induction h with
    | nil => intro a m; cases m
    | cons h1 h2 h3 h4 h5 h6 ih =>
      intro a m
      rcases List.mem_cons.mp m with e | m
      · rw [e]; exact h2
      · exact ih a m
  refine ⟨k, many, res, dx, l :: ls, ⟨⟨by rw [upd_ne nru]; exact I1.rd.1, I1.rd.2⟩, I.r0, I.u0, fun a o e => by rw [upd_ne (ne_of_none e I.u0)]; exact I1.sm _ _ e, ?_, ?_, ⟨hg, hd, I.ok⟩⟩, hm, hT⟩
  · rw [upd_same, List.map_cons, List.reverse_cons]
  · refine .cons nls nlu h0 (by rw [upd_ne nlu]; exact L1) .nil (I1.fr.keep tk fun a m vs e => ?_)
    rw [upd_ne (lu I1.fr a m)]
    exact e
section
variable {P : Program} {w : World} {K : PySem.W.Frag} {mg : Str → Option Value} {base : Heap} {ad : Nm → Addr} {dd : Nm → FuncData}
theorem scRB : FnScope ["self", "sign"] ["self"] (defScope sRB) := ⟨rfl, rfl, rfl, by decide +kernel, rfl, by decide +kernel, by decide +kernel⟩
theorem ok_rb (T : Txt K mg ad dd) : FnOk P w K mg base CX0 3 (ad .RB) (dd .RB) ["self"] (spRB (ad .Reader)) := by
  have GRF := ok_rf (P := P) (w := w) (base := base) T
  have GRE := ok_re (P := P) (w := w) (base := base) T
  have GRS := ok_rs (P := P) (w := w) (base := base) T
  have GRN := ok_rn (P := P) (w := w) (base := base) T
  have GRQ := ok_rq (P := P) (w := w) (base := base) T
  refine T.RB.F.ok scRB (fun vs H Q E h => ?_) (fun cdv A outer s H vs Q E hr h => ?_)
  · obtain ⟨H0, r, u, z, T, t, fs, rfl, _⟩ := h
    rfl
  obtain ⟨H0, r, u, z, TT, t, fs, rfl, ⟨k, many, res, dx, ls, I, hm, hg, hd, hT⟩, hp, q⟩ := h
  have hzl : sizeLine = 16777216 := sizeLine_eq
  have pp := pts_pos t
  have dpp := dp_pos t
  refine ⟨_, (pss_cons (ps_if (PW.pt (pw_or (pt_cmpR op_eq (pe_fld (pv 0) rfl) (pe_fld (pv 0) rfl) (nomark _)) (pw_or1 (pt_cmpR op_eq (pe_callB call_len_seq (by rfl) T.n_len bt_len (pa_cons (pe_fld (pv 0) rfl) pa_nil)) (pe_fld (pv 0) rfl) (nomark _))))) (pss_one ps_never) pss_nil)
      (pss_cons (ps_fldaug (pv 0) pe_int in_add)
      (pss_cons (ps_set (i := 1) scRB.nd rfl (Or.inl rfl) (pe_meth0 (pv 0) T.cl T.RF.M GRF (hr.mono (by first | decide | omega)) T.RF.b .nil pass0))
      (pss_one (ps_if (pt_cmpR op_eq (pv 1) pe_str (nomark _)) (pss_cons (ps_fldaug (pv 0) pe_int in_add)
      (pss_one (ps_expr (pe_bm PySem.F.plainAttrs_list PySem.F.slot_list_append PySem.F.type_list_append mt_append (pe_fld (pv 0) rfl) (pa_cons (pe_lst pa_nil) pa_nil))))) (pss_one (ps_if (pt_cmpR op_eq (pv 1) pe_str (nomark _)) (pss_one (ps_expr (pe_meth (pv 0) T.cl T.RE.M GRE (hr.mono (by first | decide | omega)) T.RE.b .nil pass0 (pa_cons (pe_meth0 (pv 0) T.cl T.RQ.M GRQ (hr.mono (by first | decide | omega)) T.RQ.b .nil pass0) pa_nil)))) (pss_one (ps_if (pt_cmpR op_eq (pv 1) pe_str (nomark _)) (pss_cons (ps_expr (pe_meth (pv 0) T.cl T.RS.M GRS (hr.mono (by first | decide | omega)) T.RS.b .nil pass0 (pa_cons pe_str pa_nil)))
      (pss_one (ps_expr (pe_meth (pv 0) T.cl T.RE.M GRE (hr.mono (by first | decide | omega)) T.RE.b .nil pass0 (pa_cons pe_bl pa_nil))))) (pss_one (ps_if (pt_cmpR op_eq (pv 1) pe_str (nomark _)) (pss_cons (ps_expr (pe_meth (pv 0) T.cl T.RS.M GRS (hr.mono (by first | decide | omega)) T.RS.b .nil pass0 (pa_cons pe_str pa_nil)))
      (pss_one (ps_expr (pe_meth (pv 0) T.cl T.RE.M GRE (hr.mono (by first | decide | omega)) T.RE.b .nil pass0 (pa_cons pe_bl pa_nil))))) (pss_one (ps_if (PW.pt (pw_or (pt_cmpR op_eq (pv 1) pe_str (nomark _)) (pw_or1 (pt_chain op_le_str op_le_str pe_str (pv 1) pe_str)))) (pss_one (ps_expr (pe_meth (pv 0) T.cl T.RE.M GRE (hr.mono (by first | decide | omega)) T.RE.b .nil pass0 (pa_cons (pe_meth0 (pv 0) T.cl T.RN.M GRN (hr.mono (by first | decide | omega)) T.RN.b .nil pass0) pa_nil)))) (pss_one ps_never)))))))))))))), ?_⟩
  have g := I.rd.1
  refine ⟨_, rfl, r, _, dx, _, _, rfl, g, T.cl, T.aMany, rf_many, _, rfl, r, _, dx, _, _, rfl, g, T.cl, T.aMost_parts, rf_most_parts, rfl, _, rfl, ?_⟩
  rw [decide_eq_false (show ¬ V.int (many : Int) = V.int 2000 by intro e; have e2 := V.int.inj e; omega)]
  refine iteF ⟨_, rfl, r, _, dx, _, _, rfl, g, T.cl, T.aUnclosed, rf_unclosed, u, _, rfl, .inl (SqL.of I.un), _, rfl, r, _, dx, _, _, rfl, g, T.cl, T.aMost_deep, rf_most_deep, rfl, _, rfl, ?_⟩
  have fl := I.fr.len
  rw [decide_eq_false (show ¬ V.int ((((ls.map V.ref).reverse).length : Nat) : Int) = V.int 30 by intro e; rw [List.length_reverse, List.length_map] at e; have := V.int.inj e; omega)]
  refine iteF ⟨_, rfl, r, _, dx, _, _, rfl, g, T.cl, T.aMany, rf_many, _, _, rfl, rfl, dx, _, g, rf_len, ?_⟩
  rw [show ((many : Nat) : Int) + 1 = ((many + 1 : Nat) : Int) by omega, rfp_many]
  have I1 := I.but But.put (k' := k) (many' := many + 1) (res' := res) ⟨upd_same, I.rd.2⟩
  generalize upd H r (.ins (ad .Reader) dx (rf z k (many + 1) u res)) = H1 at I1
  obtain ⟨c, l, hw, hc, hk⟩ := wr_first t hg
  have g1 := I1.rd.1
  have wl : (tl fs).length < (wr t ++ tl fs).length := by rw [hw, List.length_append, List.length_cons]; omega
  refine ⟨_, rfl, r, dx, _, rfl, g1, rf_following, r, dx, z, _, _, many + 1, u, res, rfl, I1.rd, ?_⟩
  rw [show List.take 1 (wr t ++ tl fs) = [c] by rw [hw]; rfl]
  refine ⟨_, rfl, rfl, _, rfl, ?_⟩
  rw [e40]
  have fin : ∀ {H2 : Hp} {y : V} {k2 : Nat}, RIn (ad .Reader) H0 H2 r u z (tl fs) fs k2 (many + 1) res dx ls → Tr H2 y t → ∃ us, H2 u = some (.lst us) ∧ ((us = [] ∧ Q .non (upd H2 r (.ins (ad .Reader) dx (rf z k2 (many + 1) u y)))) ∨ ∃ (vs' : List V) (l : Addr) (xs : List V), us = vs' ++ [.ref l] ∧ H2 l = some (.lst xs) ∧ xs.length < sizeLine ∧ Q .non (upd H2 l (.lst (xs ++ [y])))) := fun I2 ht =>
    put_end I2 (by omega) ht hT hp fun H' fs' st e => q H' fs' st (by rw [e]; exact wl)
  cases t with
  | tuple ts =>
    obtain rfl : c = 40 := hk
    have pT : pts (.tuple ts) = ptss ts + 1 := rfl
    have dT : dp (.tuple ts) = dps ts + 1 := rfl
    rw [str_eq]
    refine iteT ⟨_, rfl, r, _, dx, _, _, rfl, g1, T.cl, T.aAt, rf_at, _, _, rfl, rfl, dx, _, g1, rf_len, ?_⟩
    rw [show ((k : Nat) : Int) + 1 = ((k + 1 : Nat) : Int) by omega, rfp_at]
    have I2 := I1.but But.put (k' := k + 1) (many' := many + 1) (res' := res) (rest' := TL.joinL [32] (wrs ts) ++ 41 :: tl fs) ⟨upd_same, drop_tail (c := 40) (by rw [I1.rd.2.1]; show ([40] ++ TL.joinL [32] (wrs ts) ++ [41]) ++ tl fs = _; rw [List.append_assoc, List.append_assoc]; rfl), I.rd.2.2⟩
    generalize upd H1 r (.ins (ad .Reader) dx (rf z (k + 1) (many + 1) u res)) = H2 at I2
    refine ⟨_, rfl, r, _, dx, _, _, rfl, I2.rd.1, T.cl, T.aUnclosed, rf_unclosed, .inl ⟨rfl, _, .inl (.inl I2.un)⟩, Nat.zero_le _, fun a ha => ?_⟩
    refine ⟨u, _, _, rfl, rfl, by rw [upd_ne (ne_of_none I2.un ha)]; exact I2.un, by rw [List.length_reverse, List.length_map]; omega, ?_⟩
    refine q _ (([], ts) :: fs) (put_open I2 (by omega) hg (by omega) hT ha) ?_
    show (TL.joinL [32] (wrs ts) ++ 41 :: tl fs).length < (([40] ++ TL.joinL [32] (wrs ts) ++ [41]) ++ tl fs).length
    simp only [List.length_append, List.length_cons, List.length_nil]
    omega
  | str x =>
    obtain rfl : c = 34 := hk
    have hg' : (x.cps.toList.all plainC && decide (x.length ≤ 12)) = true := hg
    rw [Bool.and_eq_true] at hg'
    have xl := of_decide_eq_true hg'.2
    have xe : x.length = x.cps.toList.length := Array.length_toList.symm
    have R2 : RdAt (ad .Reader) H1 r z (34 :: (esc x.cps.toList ++ 34 :: tl fs)) k (many + 1) u res dx := ⟨g1, by rw [I1.rd.2.1]; show ([34] ++ esc x.cps.toList ++ [34]) ++ tl fs = _; rw [List.append_assoc, List.append_assoc]; rfl, I1.rd.2.2⟩
    rw [str_ne (by decide)]
    refine iteF ⟨_, rfl, rfl, _, rfl, ?_⟩
    rw [e34, str_eq]
    refine iteT ⟨_, rfl, r, dx, _, rfl, g1, rf_end_part, ?_⟩
    refine ⟨_, rfl, r, dx, _, rfl, g1, rf_read_string, r, dx, z, x.cps.toList, tl fs, k, many + 1, u, res, rfl, R2, hg'.1, by omega, fun H2 b2 g2 => ?_⟩
    obtain ⟨us, hu, f⟩ := fin (I1.but b2 g2) (y := .str (S x.cps.toList)) (.str x)
    exact ⟨r, dx, z, _, _, _, u, res, _, us, rfl, g2, hu, f⟩
  | bool b =>
    cases b with
    | true =>
      obtain rfl : c = 121 := hk
      rw [str_ne (by decide)]
      refine iteF ⟨_, rfl, rfl, _, rfl, ?_⟩
      rw [e34, str_ne (by decide)]
      refine iteF ⟨_, rfl, rfl, _, rfl, ?_⟩
      rw [e121, str_eq]
      refine iteT ⟨_, rfl, r, dx, _, rfl, g1, rf_spell, ?_⟩
      rw [eyes]
      refine ⟨r, dx, z, [121, 101, 115], tl fs, k, many + 1, u, res, rfl, I1.rd, fun H2 b2 g2 => ?_⟩
      obtain ⟨us, hu, f⟩ := fin (I1.but b2 g2) (y := .bl true) (.bl true)
      exact ⟨_, rfl, r, dx, _, rfl, g2.1, rf_end_part, r, dx, z, _, _, _, u, res, _, us, rfl, g2, hu, f⟩
    | false =>
      obtain rfl : c = 110 := hk
      rw [str_ne (by decide)]
      refine iteF ⟨_, rfl, rfl, _, rfl, ?_⟩
      rw [e34, str_ne (by decide)]
      refine iteF ⟨_, rfl, rfl, _, rfl, ?_⟩
      rw [e121, str_ne (by decide)]
      refine iteF ⟨_, rfl, rfl, _, rfl, ?_⟩
      rw [e110, str_eq]
      refine iteT ⟨_, rfl, r, dx, _, rfl, g1, rf_spell, ?_⟩
      rw [eno]
      refine ⟨r, dx, z, [110, 111], tl fs, k, many + 1, u, res, rfl, I1.rd, fun H2 b2 g2 => ?_⟩
      obtain ⟨us, hu, f⟩ := fin (I1.but b2 g2) (y := .bl false) (.bl false)
      exact ⟨_, rfl, r, dx, _, rfl, g2.1, rf_end_part, r, dx, z, _, _, _, u, res, _, us, rfl, g2, hu, f⟩
  | none =>
    obtain rfl : c = 45 := hk
    rw [str_ne (by decide)]
    refine iteF ⟨_, rfl, rfl, _, rfl, ?_⟩
    rw [e34, str_ne (by decide)]
    refine iteF ⟨_, rfl, rfl, _, rfl, ?_⟩
    rw [e121, str_ne (by decide)]
    refine iteF ⟨_, rfl, rfl, _, rfl, ?_⟩
    rw [e110, str_ne (by decide)]
    refine iteF ⟨_, rfl, rfl, _, rfl, ?_⟩
    rw [e45, str_eq]
    refine iteT (iteT ⟨_, rfl, r, dx, _, rfl, g1, rf_end_part, ?_⟩)
    refine ⟨_, rfl, r, dx, _, rfl, g1, rf_read_number, r, dx, z, [45], tl fs, k, many + 1, u, res, .non, rfl, I1.rd, tl_nodig fs, .inl ⟨rfl, rfl⟩, fun H2 b2 g2 => ?_⟩
    obtain ⟨us, hu, f⟩ := fin (I1.but b2 g2) (y := .non) .non
    exact ⟨r, dx, z, _, _, _, u, res, _, us, rfl, g2, hu, f⟩
  | int i =>
    have hk' : c = 45 ∨ (48 ≤ c ∧ c ≤ 57) := hk
    have ne : ∀ d, (d = 40 ∨ d = 34 ∨ d = 121 ∨ d = 110) → [c] ≠ [d] := fun d hd q => by
      have q' : c = d := List.cons.inj q |>.1
      omega
    rw [str_ne (ne 40 (by decide))]
    refine iteF ⟨_, rfl, rfl, _, rfl, ?_⟩
    rw [e34, str_ne (ne 34 (by decide))]
    refine iteF ⟨_, rfl, rfl, _, rfl, ?_⟩
    rw [e121, str_ne (ne 121 (by decide))]
    refine iteF ⟨_, rfl, rfl, _, rfl, ?_⟩
    rw [e110, str_ne (ne 110 (by decide))]
    refine iteF ⟨_, rfl, rfl, _, rfl, ?_⟩
    have go : tMeth (ad .Reader) "end_part" (spRE (ad .Reader)) [] E (tVar 0) (tCons (tMeth (ad .Reader) "read_number" (spRN (ad .Reader)) [] E (tVar 0) tNil) tNil) [some (.ref r), some (.str (S [c]))] H1 (fun _ H' => Q .non H') := by
      refine ⟨_, rfl, r, dx, _, rfl, g1, rf_end_part, ?_⟩
      refine ⟨_, rfl, r, dx, _, rfl, g1, rf_read_number, r, dx, z, intL i, tl fs, k, many + 1, u, res, .int i, rfl, I1.rd, tl_nodig fs, .inr ⟨i, rfl, rfl, of_decide_eq_true hg⟩, fun H2 b2 g2 => ?_⟩
      obtain ⟨us, hu, f⟩ := fin (I1.but b2 g2) (y := .int i) (.int i)
      exact ⟨r, dx, z, _, _, _, u, res, _, us, rfl, g2, hu, f⟩
    rcases hk' with rfl | ⟨h1, h2⟩
    · rw [e45, str_eq]
      exact iteT (iteT go)
    · rw [e45, str_ne (by intro q; have q' : c = 45 := List.cons.inj q |>.1; omega)]
      refine iteF ⟨_, rfl, _, _, rfl, rfl, ?_⟩
      rw [e48, le_cc, decide_eq_true h1]
      refine ⟨_, rfl, iteT ⟨_, _, rfl, rfl, ?_⟩⟩
      rw [e57, le_cc, decide_eq_true h2]
      exact ⟨_, rfl, iteT go⟩
  | list _ => cases hg
  | dict _ => cases hg
end
end TK
namespace TK
open PySem L2
/-! ### one turn -/
theorem join_map : ∀ (t : PyData) (ts : List PyData), TL.joinL [32] (wrs (t :: ts)) = wr t ++ (ts.map fun t => 32 :: wr t).flatten
  | t, [] => by
    show wr t = wr t ++ []
    rw [List.append_nil]
  | t, u :: ts => by
    have ih := join_map u ts
    show wr t ++ ([32] ++ TL.joinL [32] (wrs (u :: ts))) = wr t ++ ((32 :: wr u) ++ (ts.map fun t => 32 :: wr t).flatten)
    rw [ih]; rfl
theorem cur_new (t : PyData) (ts : List PyData) (fs : Frs) : cur (([], t :: ts) :: fs) = wr t ++ tl (([], ts) :: fs) := by
  show TL.joinL [32] (wrs (t :: ts)) ++ 41 :: tl fs = wr t ++ ((ts.map fun t => 32 :: wr t).flatten ++ 41 :: tl fs)
  rw [join_map, List.append_assoc]
theorem cur_go (d : PyData) (ds : List PyData) (t : PyData) (ts : List PyData) (fs : Frs) : cur ((d :: ds, t :: ts) :: fs) = 32 :: (wr t ++ tl ((d :: ds, ts) :: fs)) := by
  show (32 :: wr t ++ (ts.map fun t => 32 :: wr t).flatten) ++ 41 :: tl fs = 32 :: (wr t ++ ((ts.map fun t => 32 :: wr t).flatten ++ 41 :: tl fs))
  rw [List.cons_append, List.cons_append, List.append_assoc]
theorem cur_end (ds : List PyData) (fs : Frs) : cur ((ds, []) :: fs) = 41 :: tl fs := by cases ds <;> rfl
theorem RIn.pop {C : Addr} {H0 H : Hp} {r u : Addr} {z rest : List Nat} {ds ts : List PyData} {fs : Frs} {k many : Nat} {res : V} {dx l : Addr} {ls : List Addr} (I : RIn C H0 H r u z rest ((ds, ts) :: fs) k many res dx (l :: ls)) :
    RIn C H0 (upd H u (.lst (ls.map V.ref).reverse)) r u z rest fs k many res dx ls := by
  have nru : r ≠ u := ne_of I.rd.1 I.un (by intro q; cases q)
  have tk : Tups H (upd H u (.lst (ls.map V.ref).reverse)) := tups_lst I.un
  have lu : ∀ {ls : List Addr} {fs : Frs}, FrAt H0 H u ls fs → ∀ a ∈ ls, a ≠ u := fun h => by
    induction h with
    | nil => intro a m; cases m
    | cons h1 h2 h3 h4 h5 h6 ih =>
      intro a m
      rcases List.mem_cons.mp m with e | m
      · rw [e]; exact h2
      · exact ih a m
  have hf := I.fr
  cases hf with
  | cons h1 h2 h3 h4 h5 h6 =>
  exact ⟨⟨by rw [upd_ne nru]; exact I.rd.1, I.rd.2⟩, I.r0, I.u0, fun a o e => by rw [upd_ne (ne_of_none e I.u0)]; exact I.sm _ _ e, upd_same, h6.keep tk fun a m vs e => by rw [upd_ne (lu h6 a m)]; exact e, I.ok.2.2⟩
/-- the first of what follows is taken up -/
theorem RIn.next {C : Addr} {H0 H : Hp} {r u : Addr} {z rest : List Nat} {ds : List PyData} {t : PyData} {ts : List PyData} {fs : Frs} {k many : Nat} {res : V} {dx : Addr} {ls : List Addr} (I : RIn C H0 H r u z rest ((ds, t :: ts) :: fs) k many res dx ls) :
    RIn C H0 H r u z rest ((ds, ts) :: fs) k many res dx ls ∧ gd t = true ∧ dp t + (fs.length + 1) ≤ 30 := by
  have hf := I.fr
  cases hf with
  | cons h1 h2 h3 h4 h5 h6 =>
  obtain ⟨o1, o2, o3⟩ := I.ok
  have o1' : (gd t && gds ts) = true := o1
  rw [Bool.and_eq_true] at o1'
  have o2' : max (dp t) (dps ts) + (fs.length + 1) ≤ 30 := o2
  exact ⟨⟨I.rd, I.r0, I.u0, I.sm, I.un, .cons h1 h2 h3 h4 h5 h6, o1'.2, by omega, o3⟩, o1'.1, by omega⟩
def spRG (C : Addr) : Sp := fun vs H Q _ => ∃ (H0 : Hp) (r u : Addr) (z : List Nat) (T : PyData) (fs : Frs), vs = [.ref r] ∧ RSt C H0 H r u z T fs ∧ fs ≠ [] ∧ pts T ≤ 2000 ∧
  ∀ (H' : Hp) (fs' : Frs), RSt C H0 H' r u z T fs' → (cur fs').length < (cur fs).length → Q .non H'
def spRW (C : Addr) : Sp := fun vs H Q _ => ∃ (H0 : Hp) (r u : Addr) (z : List Nat) (T : PyData), vs = [.ref r] ∧ RPre C H0 H r u z T T [] ∧ pts T ≤ 2000 ∧ ∀ (x : V) (H' : Hp), Same H0 H' → Tr H' x T → Q x H'
section
variable {P : Program} {w : World} {K : PySem.W.Frag} {mg : Str → Option Value} {base : Heap} {ad : Nm → Addr} {dd : Nm → FuncData}
theorem scRG : FnScope ["self", "parts"] ["self"] (defScope sRG) := ⟨rfl, rfl, rfl, by decide +kernel, rfl, by decide +kernel, by decide +kernel⟩
theorem scRW : FnScope ["self"] ["self"] (defScope sRW) := ⟨rfl, rfl, rfl, by decide +kernel, rfl, by decide +kernel, by decide +kernel⟩
theorem ok_rg (T : Txt K mg ad dd) : FnOk P w K mg base CX0 4 (ad .RG) (dd .RG) ["self"] (spRG (ad .Reader)) := by
  have GRF := ok_rf (P := P) (w := w) (base := base) T
  have GRE := ok_re (P := P) (w := w) (base := base) T
  have GRS := ok_rs (P := P) (w := w) (base := base) T
  have GRB := ok_rb (P := P) (w := w) (base := base) T
  refine T.RG.F.ok scRG (fun vs H Q E h => ?_) (fun cdv A outer s H vs Q E hr h => ?_)
  · obtain ⟨H0, r, u, z, T, fs, rfl, _⟩ := h
    rfl
  obtain ⟨H0, r, u, z, TT, fs, rfl, ⟨k, many, res, dx, ls, I, hm, hT⟩, hfs, hp, q⟩ := h
  have hzl : sizeLine = 16777216 := sizeLine_eq
  refine ⟨_, (pss_cons (ps_set (i := 1) scRG.nd rfl (Or.inl rfl) (pe_ix ix_list (pe_fld (pv 0) rfl) (pe_un un_neg pe_int) (fun _ _ => rfl)))
      (pss_cons (ps_if (pt_cmpR op_eq (pe_meth0 (pv 0) T.cl T.RF.M GRF (hr.mono (by first | decide | omega)) T.RF.b .nil pass0) pe_str (nomark _)) (pss_cons (ps_fldaug (pv 0) pe_int in_add)
      (pss_cons (ps_expr (pe_bm0 PySem.F.plainAttrs_list PySem.F.slot_list_pop PySem.F.type_list_pop mt_pop (pe_fld (pv 0) rfl)))
      (pss_cons (ps_expr (pe_meth (pv 0) T.cl T.RE.M GRE (hr.mono (by first | decide | omega)) T.RE.b .nil pass0 (pa_cons (pe_callTy call_tuple_of (by rfl) T.n_tuple bt_tuple (pa_cons (pv 1) pa_nil)) pa_nil)))
      (pss_one ps_retN)))) pss_nil)
      (pss_cons (ps_if (pt_truth (pv 1) (fun _ => rfl)) (pss_cons (ps_if (pt_cmpR op_eq (pe_fld (pv 0) rfl) (pe_fld (pv 0) rfl) (nomark _)) (pss_one ps_never) pss_nil)
      (pss_one (ps_expr (pe_meth (pv 0) T.cl T.RS.M GRS (hr.mono (by first | decide | omega)) T.RS.b .nil pass0 (pa_cons pe_str pa_nil))))) pss_nil)
      (pss_one (ps_expr (pe_meth0 (pv 0) T.cl T.RB.M GRB (hr.mono (by first | decide | omega)) T.RB.b .nil pass0)))))), ?_⟩
  cases fs with
  | nil => exact absurd rfl hfs
  | cons f fs =>
  obtain ⟨ds, ts⟩ := f
  have g := I.rd.1
  have hf := I.fr
  cases hf with
  | @cons l ls vs _ _ _ h1 h2 h3 h4 h5 h6 =>
  have un := I.un
  rw [List.map_cons, List.reverse_cons] at un
  refine ⟨_, rfl, r, _, dx, _, _, rfl, g, T.cl, T.aUnclosed, rf_unclosed, _, rfl, u, _, _, .ref l, rfl, rfl, SqL.of un, at_last _ _, ?_⟩
  refine ⟨_, rfl, r, dx, _, rfl, g, rf_following, r, dx, z, _, _, many, u, res, rfl, I.rd, rfl, _, rfl, ?_⟩
  rw [e41]
  cases ts with
  | nil =>
    rw [cur_end, show List.take 1 (41 :: tl fs) = [41] from rfl, str_eq]
    have I0 := I
    rw [cur_end] at I0
    refine iteT ⟨_, rfl, r, _, dx, _, _, rfl, g, T.cl, T.aAt, rf_at, _, _, rfl, rfl, dx, _, g, rf_len, ?_⟩
    rw [show ((k : Nat) : Int) + 1 = ((k + 1 : Nat) : Int) by omega, rfp_at]
    have I1 := I0.but But.put (k' := k + 1) (many' := many) (res' := res) ⟨upd_same, drop_tail I0.rd.2.1, I0.rd.2.2⟩
    have tu : ∀ j, Tups H (upd H r (.ins (ad .Reader) dx (rf z j many u res))) := fun j => tups_but But.put g
    have L1 : (upd H r (.ins (ad .Reader) dx (rf z (k + 1) many u res))) l = some (.lst vs) := by rw [upd_ne (ne_of h4 g (by intro q; cases q))]; exact h4
    have T1 := TrAll.keep (tu (k + 1)) _ _ h5
    generalize upd H r (.ins (ad .Reader) dx (rf z (k + 1) many u res)) = H1 at I1 L1 T1
    have un1 := I1.un
    rw [List.map_cons, List.reverse_cons] at un1
    refine ⟨_, rfl, r, _, dx, _, _, rfl, I1.rd.1, T.cl, T.aUnclosed, rf_unclosed, .inl ⟨rfl, _, .inl (.inl un1)⟩, u, _, _, rfl, rfl, un1, last_app _ _, ?_⟩
    rw [List.dropLast_concat]
    have I2 := I1.pop
    have L2 : (upd H1 u (.lst (ls.map V.ref).reverse)) l = some (.lst vs) := by rw [upd_ne h2]; exact L1
    have T2 := TrAll.keep (tups_lst (o := .lst (ls.map V.ref).reverse) un1) _ _ T1
    generalize upd H1 u (.lst (ls.map V.ref).reverse) = H2 at I2 L2 T2
    refine ⟨_, rfl, r, dx, _, rfl, I2.rd.1, rf_end_part, _, rfl, l, vs, rfl, .inl ⟨SqL.of L2, fun p hp2 => ?_⟩⟩
    have I3 := I2.keep (same_new hp2 (.tup vs))
    have T3 : Tr (upd H2 p (.tup vs)) (.ref p) (.tuple ds) := .tup upd_same (TrAll.keep (Tups.of_same (same_new hp2 (.tup vs))) _ _ T2)
    have hT' : plug (.tuple (ds ++ [])) fs = TT := hT
    rw [List.append_nil] at hT'
    obtain ⟨us, hu, f⟩ := put_end (Q := fun _ H' => Q .non H') I3 (by show _ + more fs ≤ _; have : more ((ds, []) :: fs) = 0 + more fs := rfl; omega) T3 hT' hp (fun H' fs' st e => q H' fs' st (by rw [e, cur_end, List.length_cons]; omega))
    exact ⟨r, dx, z, _, _, _, u, res, _, us, rfl, I3.rd, hu, f⟩
  | cons t ts =>
    obtain ⟨I1, gt, dt⟩ := I.next
    have pm : more ((ds, t :: ts) :: fs) = pts t + ptss ts + more fs := rfl
    have pm2 : more ((ds, ts) :: fs) = ptss ts + more fs := rfl
    have tp := pts_pos t
    have hT' : plug t ((ds, ts) :: fs) = TT := hT
    cases ds with
    | nil =>
      cases h5
      rw [cur_new] at I1 q ⊢
      obtain ⟨c, rl, hw, hc, _⟩ := wr_first t gt
      rw [show List.take 1 (wr t ++ tl (([], ts) :: fs)) = [c] by rw [hw]; rfl, str_ne (by intro q; exact hc (List.cons.inj q).1)]
      refine iteF ⟨_, rfl, false, .inl ⟨_, SqL.of h4, rfl⟩, iteF ?_⟩
      exact ⟨_, rfl, r, dx, _, rfl, g, rf_begin_part, H0, r, u, z, TT, t, ([], ts) :: fs, rfl, ⟨k, many, res, dx, _, I1, by omega, gt, dt, hT'⟩, hp, fun H' fs' st lt => q H' fs' st lt⟩
    | cons d ds =>
      cases h5 with
      | cons h5 h6' =>
      rw [cur_go] at I1 q ⊢
      rw [show List.take 1 (32 :: (wr t ++ tl ((d :: ds, ts) :: fs))) = [32] from rfl, str_ne (by decide)]
      refine iteF ⟨_, rfl, true, .inl ⟨_, SqL.of h4, by simp⟩, iteT ?_⟩
      refine ⟨_, rfl, r, _, dx, _, _, rfl, g, T.cl, T.aMany, rf_many, _, rfl, r, _, dx, _, _, rfl, g, T.cl, T.aMost_parts, rf_most_parts, rfl, _, rfl, ?_⟩
      rw [decide_eq_false (show ¬ V.int (many : Int) = V.int 2000 by intro e; have e2 := V.int.inj e; omega)]
      refine iteF ⟨_, rfl, r, dx, _, rfl, g, rf_spell, ?_⟩
      rw [e32]
      refine ⟨r, dx, z, [32], wr t ++ tl ((d :: ds, ts) :: fs), k, many, u, res, rfl, I1.rd, fun H2 b2 g2 => ?_⟩
      have I2 := I1.but b2 g2
      exact ⟨_, rfl, r, dx, _, rfl, g2.1, rf_begin_part, H0, r, u, z, TT, t, (d :: ds, ts) :: fs, rfl, ⟨_, many, res, dx, _, I2, by omega, gt, dt, hT'⟩, hp, fun H' fs' st lt => q H' fs' st (Nat.lt_succ_of_lt lt)⟩
theorem ok_rw (T : Txt K mg ad dd) : FnOk P w K mg base CX0 5 (ad .RW) (dd .RW) ["self"] (spRW (ad .Reader)) := by
  have GRB := ok_rb (P := P) (w := w) (base := base) T
  have GRG := ok_rg (P := P) (w := w) (base := base) T
  refine T.RW.F.ok scRW (fun vs H Q E h => ?_) (fun cdv A outer s H vs Q E hr h => ?_)
  · obtain ⟨H0, r, u, z, T, rfl, _⟩ := h
    rfl
  obtain ⟨H0, r, u, z, TT, rfl, pre, hp, q⟩ := h
  refine ⟨_, (pss_cons (ps_expr (pe_meth0 (pv 0) T.cl T.RB.M GRB (hr.mono (by first | decide | omega)) T.RB.b .nil pass0))
      (pss_cons (ps_while PassesOwn.never (pt_truth (pe_fld (pv 0) rfl) (fun _ => rfl)) (pss_one (ps_expr (pe_meth0 (pv 0) T.cl T.RG.M GRG (hr.mono (by first | decide | omega)) T.RG.b .nil pass0))))
      (pss_cons (ps_if (pt_cmpR op_lt (pe_fld (pv 0) rfl) (pe_callB call_len (by rfl) T.n_len bt_len (pa_cons (pe_fld (pv 0) rfl) pa_nil)) (nomark _)) (pss_one ps_never) pss_nil)
      (pss_one (ps_ret (pe_fld (pv 0) rfl)))))), ?_⟩
  have pre' := pre
  obtain ⟨k0, many0, res0, dx0, ls0, I0, _⟩ := pre'
  refine ⟨_, rfl, r, dx0, _, rfl, I0.rd.1, rf_begin_part, H0, r, u, z, TT, TT, [], rfl, pre, hp, fun H1 fs1 st1 _ => ?_⟩
  refine ⟨fun m σ H2 => ∃ fs, σ = [some (.ref r)] ∧ RSt (ad .Reader) H0 H2 r u z TT fs ∧ m = (cur fs).length, ⟨_, fs1, rfl, st1, rfl⟩, ?_⟩
  rintro m σ H2 ⟨fs, rfl, ⟨k, many, res, dx, ls, I, hm, hT⟩, rfl⟩
  have g := I.rd.1
  cases fs with
  | nil =>
    have hf := I.fr
    cases hf
    refine ⟨_, rfl, r, _, dx, _, _, rfl, g, T.cl, T.aUnclosed, rf_unclosed, false, .inl ⟨_, SqL.of I.un, rfl⟩, ?_⟩
    have ke : z.length ≤ k := by
      have e : z.drop k = [] := I.rd.2.1
      have := congrArg List.length e
      rw [List.length_drop] at this
      show z.length ≤ k
      have h0 : ([] : List Nat).length = 0 := rfl
      omega
    refine ⟨_, rfl, r, _, dx, _, _, rfl, g, T.cl, T.aAt, rf_at, _, rfl, r, _, dx, _, _, rfl, g, T.cl, T.aText, rf_text, _, _, rfl, ⟨by rw [S_len]; exact I.rd.2.2, rfl⟩, _, _, rfl, rfl, _, rfl, ?_⟩
    rw [S_len, decide_eq_false (by omega)]
    refine iteF ⟨_, rfl, r, _, dx, _, _, rfl, g, T.cl, T.aResult, rf_result, ?_⟩
    exact q _ _ I.sm hT
  | cons f fs =>
    obtain ⟨ds, ts⟩ := f
    have hf := I.fr
    cases hf with
    | @cons l ls vs _ _ _ h1 h2 h3 h4 h5 h6 =>
    have un := I.un
    rw [List.map_cons, List.reverse_cons] at un
    refine ⟨_, rfl, r, _, dx, _, _, rfl, g, T.cl, T.aUnclosed, rf_unclosed, true, .inl ⟨_, SqL.of un, by simp⟩, ?_⟩
    refine ⟨fun σ' H'' => ∃ m', m' < (cur ((ds, ts) :: fs)).length ∧ ∃ fs, σ' = [some (.ref r)] ∧ RSt (ad .Reader) H0 H'' r u z TT fs ∧ m' = (cur fs).length, fun _ _ z => z, ?_⟩
    exact ⟨_, rfl, r, dx, _, rfl, g, rf_go_on, H0, r, u, z, TT, (ds, ts) :: fs, rfl, ⟨k, many, res, dx, l :: ls, I, hm, hT⟩, (by intro e; cases e), hp, fun H' fs' st lt => ⟨_, lt, fs', rfl, st, rfl⟩⟩
end
end TK
namespace TK
open PySem L2
/-! ### a reader is made, a tree is read -/
def spRI (C : Addr) : Sp := fun vs H Q _ => ∃ (r dx : Addr) (z : List Nat), vs = [.ref r, .str (S z), .int 2000, .int 30] ∧ H r = some (.ins C dx []) ∧
  ∀ (H' : Hp) (u : Addr), But r H H' → H u = none → H' r = some (.ins C dx (rf z 0 0 u .non)) → H' u = some (.lst []) → Q .non H'
def spRT : Sp := fun vs H Q _ => ∃ t : PyData, vs = [.str (S (wr t))] ∧ gd t = true ∧ dp t ≤ 30 ∧ pts t ≤ 2000 ∧ ∀ (x : V) (H' : Hp), Same H H' → Tr H' x t → Q x H'
section
variable {P : Program} {w : World} {K : PySem.W.Frag} {mg : Str → Option Value} {base : Heap} {ad : Nm → Addr} {dd : Nm → FuncData}
theorem scRI : FnScope ["self", "text", "most_parts", "most_deep"] ["self", "text", "most_parts", "most_deep"] (defScope sRI) := ⟨rfl, rfl, rfl, by decide +kernel, rfl, by decide +kernel, by decide +kernel⟩
theorem scRT : FnScope ["text"] ["text"] (defScope sRT) := ⟨rfl, rfl, rfl, by decide +kernel, rfl, by decide +kernel, by decide +kernel⟩
theorem ok_ri (T : Txt K mg ad dd) : FnOk P w K mg base CX0 1 (ad .RI) (dd .RI) ["self", "text", "most_parts", "most_deep"] (spRI (ad .Reader)) := by
  refine T.RI.F.ok scRI (fun vs H Q E h => ?_) (fun cdv A outer s H vs Q E hr h => ?_)
  · obtain ⟨r, dx, z, rfl, _⟩ := h
    rfl
  obtain ⟨r, dx, z, rfl, g, q⟩ := h
  refine ⟨_, (pss_cons (ps_fld (pv 0) (pv 1) rfl)
      (pss_cons (ps_fld (pv 0) (pv 2) rfl)
      (pss_cons (ps_fld (pv 0) (pv 3) rfl)
      (pss_cons (ps_fld (pv 0) pe_int rfl)
      (pss_cons (ps_fld (pv 0) pe_int rfl)
      (pss_cons (ps_fld (pv 0) (pe_lst pa_nil) rfl)
      (pss_one (ps_fld (pv 0) pe_non rfl)))))))), ?_⟩
  have s1 : ∀ {fl : List (Str × V)}, But r H (upd H r (.ins (ad .Reader) dx fl)) := But.put
  have g1 : ∀ {fl : List (Str × V)}, (upd H r (.ins (ad .Reader) dx fl)) r = some (.ins (ad .Reader) dx fl) := upd_same
  refine ⟨_, rfl, _, rfl, r, _, dx, _, rfl, g, T.cl, T.aText, (by show 0 < 1000; decide), ?_⟩
  rw [pf_nil]
  refine ⟨_, rfl, _, rfl, r, _, dx, _, rfl, g1, T.cl, T.aMost_parts, (by show 1 < 1000; decide), ?_⟩
  rw [upd_upd, pf_miss n_text_most_parts, pf_nil]
  refine ⟨_, rfl, _, rfl, r, _, dx, _, rfl, g1, T.cl, T.aMost_deep, (by show 2 < 1000; decide), ?_⟩
  rw [upd_upd, pf_miss n_text_most_deep, pf_miss n_most_parts_most_deep, pf_nil]
  refine ⟨_, rfl, r, _, dx, _, rfl, g1, T.cl, T.aAt, (by show 3 < 1000; decide), ?_⟩
  rw [upd_upd, pf_miss n_text_at, pf_miss n_most_parts_at, pf_miss n_most_deep_at, pf_nil]
  refine ⟨_, rfl, r, _, dx, _, rfl, g1, T.cl, T.aMany, (by show 4 < 1000; decide), ?_⟩
  rw [upd_upd, pf_miss n_text_many, pf_miss n_most_parts_many, pf_miss n_most_deep_many, pf_miss n_at_many, pf_nil]
  refine ⟨Nat.zero_le _, fun u hu => ?_⟩
  have nru : r ≠ u := ne_of_none g1 hu
  have hu0 : H u = none := by rw [upd_ne nru.symm] at hu; exact hu
  refine ⟨_, rfl, r, _, dx, _, rfl, (by rw [upd_ne nru]; exact g1), T.cl, T.aUnclosed, (by show 5 < 1000; decide), ?_⟩
  rw [pf_miss n_text_unclosed, pf_miss n_most_parts_unclosed, pf_miss n_most_deep_unclosed, pf_miss n_at_unclosed, pf_miss n_many_unclosed, pf_nil]
  refine ⟨_, rfl, r, _, dx, _, rfl, upd_same, T.cl, T.aResult, (by show 6 < 1000; decide), ?_⟩
  rw [upd_upd, pf_miss n_text_result, pf_miss n_most_parts_result, pf_miss n_most_deep_result, pf_miss n_at_result, pf_miss n_many_result, pf_miss n_unclosed_result, pf_nil]
  refine q _ u (fun b o n e => ?_) hu0 upd_same ?_
  · rw [upd_ne n, upd_ne (ne_of_none e hu0), upd_ne n]; exact e
  · rw [upd_ne nru.symm, upd_same]
theorem ok_rt (T : Txt K mg ad dd) : FnOk P w K mg base CX0 6 (ad .RT) (dd .RT) ["text"] spRT := by
  have GRI := ok_ri (P := P) (w := w) (base := base) T
  have GRW := ok_rw (P := P) (w := w) (base := base) T
  refine T.RT.F.ok scRT (fun vs H Q E h => ?_) (fun cdv A outer s H vs Q E hr h => ?_)
  · obtain ⟨t, rfl, _⟩ := h
    rfl
  obtain ⟨t, rfl, hg, hd, hp, q⟩ := h
  have hzl : sizeLine = 16777216 := sizeLine_eq
  have wl := wr_len t hg
  refine ⟨_, (pss_cons (ps_if (pt_not (pt_val (pe_callB call_isi (by rfl) T.n_isinstance bt_isinstance (pa_cons (pv 0) (pa_cons (pe_bltn (v := .ty "str") rfl T.n_str bt_str rfl) pa_nil))) (fun _ => rfl))) (pss_one ps_never) pss_nil)
      (pss_one (ps_ret (pe_meth0 (pe_make T.mkR GRI (hr.mono (by first | decide | omega)) rfl T.mgReader T.RI.b .nil pass0 (pa_cons (pv 0) (pa_cons (pe_gint rfl T.gMOST_PARTS) (pa_cons (pe_gint rfl T.gMOST_DEEP) pa_nil)))) T.cl T.RW.M GRW (hr.mono (by first | decide | omega)) T.RW.b .nil pass0)))), ?_⟩
  refine ⟨_, rfl, _, _, _, _, true, rfl, .ty _, .base (.str _), k_ss, _, rfl, iteF ?_⟩
  refine ⟨_, rfl, fun r dx hr0 hdx ne => ?_⟩
  have nrd : r ≠ dx := fun e => ne e.symm
  refine ⟨r, dx, wr t, rfl, upd_same, fun H' u b hu h1 h2 => ⟨rfl, ?_⟩⟩
  have sm : Same H H' := fun a o e => b a o (ne_of_none e hr0) (by rw [upd_ne (ne_of_none e hr0), upd_ne (ne_of_none e hdx)]; exact e)
  have u0 : H u = none := by
    have n1 : u ≠ r := fun e => by rw [e, upd_same] at hu; cases hu
    have n2 : u ≠ dx := fun e => by rw [upd_ne n1, e, upd_same] at hu; cases hu
    rw [upd_ne n1, upd_ne n2] at hu
    exact hu
  refine ⟨r, dx, _, rfl, h1, rf_whole, H, r, u, wr t, t, rfl, ⟨0, 0, .non, dx, [], ⟨⟨h1, ?_, by omega⟩, hr0, u0, sm, h2, .nil, True.intro⟩, ?_, hg, ?_, rfl⟩, hp, fun x H2 s2 t2 => q x H2 s2 t2⟩
  · show wr t = wr t ++ []
    rw [List.append_nil]
  · show 0 + pts t + 0 ≤ 2000
    omega
  · show dp t + 0 ≤ 30
    omega
end
end TK
namespace TK
open PySem L2
/-! ### repr of a tree -/
mutual
theorem gd_showable : ∀ t : PyData, gd t = true → t.showable = true
  | .none, _ => rfl
  | .bool _, _ => rfl
  | .int i, h => decide_eq_true (bits_of (of_decide_eq_true h))
  | .str _, _ => rfl
  | .tuple ts, h => gds_showable ts h
  | .list _, h => by cases h
  | .dict _, h => by cases h
theorem gds_showable : ∀ ts : List PyData, gds ts = true → PyData.showableAll ts = true
  | [], _ => rfl
  | t :: ts, h => by
    have h' : (gd t && gds ts) = true := h
    rw [Bool.and_eq_true] at h'
    show (t.showable && PyData.showableAll ts) = true
    rw [gd_showable t h'.1, gds_showable ts h'.2]; rfl
end
mutual
theorem gd_nodict : ∀ t : PyData, gd t = true → t.hasDict = false
  | .none, _ => rfl
  | .bool _, _ => rfl
  | .int i, h => rfl
  | .str _, _ => rfl
  | .tuple ts, h => gds_nodict ts h
  | .list _, h => by cases h
  | .dict _, h => by cases h
theorem gds_nodict : ∀ ts : List PyData, gds ts = true → PyData.hasDictAll ts = false
  | [], _ => rfl
  | t :: ts, h => by
    have h' : (gd t && gds ts) = true := h
    rw [Bool.and_eq_true] at h'
    show (t.hasDict || PyData.hasDictAll ts) = false
    rw [gd_nodict t h'.1, gds_nodict ts h'.2]; rfl
end
mutual
theorem depth_le : ∀ t : PyData, gd t = true → t.depth ≤ dp t
  | .none, _ => Nat.zero_le _
  | .bool _, _ => Nat.zero_le _
  | .int i, h => Nat.zero_le _
  | .str _, _ => Nat.zero_le _
  | .tuple ts, h => Nat.succ_le_succ (depths_le ts h)
  | .list _, h => by cases h
  | .dict _, h => by cases h
theorem depths_le : ∀ ts : List PyData, gds ts = true → PyData.depthAll ts ≤ dps ts
  | [], _ => Nat.le_refl _
  | t :: ts, h => by
    have h' : (gd t && gds ts) = true := h
    rw [Bool.and_eq_true] at h'
    have a := depth_le t h'.1
    have b := depths_le ts h'.2
    show max t.depth (PyData.depthAll ts) ≤ max (dp t) (dps ts)
    omega
end
theorem shown_str {x : Str} (h : gd (.str x) = true) : (reprText x).length ≤ 122 := by
  have h' : (x.cps.toList.all plainC && decide (x.length ≤ 12)) = true := h
  rw [Bool.and_eq_true] at h'
  have l := of_decide_eq_true h'.2
  have e := StrLaws.reprText_len x fun c hc => by
    have q := List.all_eq_true.mp h'.1 c hc
    have q' : (decide (32 ≤ c) && decide (c ≤ 36) || decide (38 ≤ c) && decide (c ≤ 126)) = true := q
    have c126 : c ≤ 126 := by
      by_cases z : c ≤ 126
      · exact z
      · rw [decide_eq_false (show ¬ c ≤ 36 by omega), decide_eq_false z, Bool.and_false, Bool.and_false] at q'
        cases q'
    exact Nat.lt_of_le_of_lt c126 (by decide)
  omega
mutual
theorem shown_le : ∀ t : PyData, gd t = true → t.shown.length + 6 ≤ 128 * pts t
  | .none, _ => by
    have e : (PyData.shown .none).length = 4 := rfl
    show _ ≤ 128 * 1
    omega
  | .bool b, _ => by
    have e : (PyData.shown (.bool b)).length ≤ 5 := by cases b <;> decide
    show _ ≤ 128 * 1
    omega
  | .int i, h => by
    have e := intL_len (of_decide_eq_true h)
    have e2 : (PyData.shown (.int i)).length = (intL i).length := Array.length_toList.symm
    show _ ≤ 128 * 1
    omega
  | .str x, h => by
    have e := shown_str h
    show (reprText x).length + 6 ≤ 128 * 1
    omega
  | .tuple ts, h => by
    have e := showns_le ts h
    have e2 := tupleText_len_le (PyData.shownAll ts)
    have e3 : (PyData.shown (.tuple ts)).length = (tupleText (PyData.shownAll ts)).length := rfl
    show _ ≤ 128 * (ptss ts + 1)
    omega
  | .list _, h => by cases h
  | .dict _, h => by cases h
theorem showns_le : ∀ ts : List PyData, gds ts = true → ((PyData.shownAll ts).map (·.length)).sum + 2 * (PyData.shownAll ts).length ≤ 128 * ptss ts
  | [], _ => Nat.le_refl _
  | t :: ts, h => by
    have h' : (gd t && gds ts) = true := h
    rw [Bool.and_eq_true] at h'
    have a := shown_le t h'.1
    have b := showns_le ts h'.2
    show (t.shown.length + ((PyData.shownAll ts).map (·.length)).sum) + 2 * ((PyData.shownAll ts).length + 1) ≤ 128 * (pts t + ptss ts)
    omega
end
theorem call_repr_tree {X : Cx} (hg : X.A.guards = some []) (hu : X.A.units + 64 < cLine) : CallR X (.builtin "repr") (fun xs H Q => ∃ (x : V) (t : PyData), xs = [x] ∧ Tr H x t ∧ gd t = true ∧ dp t ≤ 30 ∧ pts t ≤ 2000 ∧ Q (.str t.shown) H) := by
  intro pins s σ H xs us Q I rs h
  obtain ⟨x, t, rfl, tr, g, hd, hp, q⟩ := h
  obtain ⟨u, rfl, rx⟩ := vals1 rs
  have sl := shown_le t g
  have hz : sizeLine = 16777216 := sizeLine_eq
  have fin : ∀ k : Nat, EP X pins σ Q (.str t.shown k) { s with toks := s.toks + 1 } := fun k => ⟨.str t.shown, H, I.tok _, ⟨k, rfl⟩, q⟩
  cases tr with
  | non =>
    cases rx
    exact PySem.P.repr_of_none (fin s.toks)
  | bl b =>
    cases rx
    refine PySem.P.repr_of_bool ?_
    cases b <;> exact fin s.toks
  | int i =>
    obtain ⟨tk, rfl⟩ := rx
    exact PySem.P.repr_of_int (bits_of (of_decide_eq_true g)) (fin s.toks)
  | str z =>
    obtain ⟨tk, rfl⟩ := rx
    exact PySem.P.repr_of_str (fin s.toks) (by have := shown_str g; omega)
  | @tup a ys ts h1 h2 =>
    obtain rfl : u = Value.ref a := rx
    obtain ⟨as, r⟩ := Dp.reads I (.tuple ts) (.ref a) (.ref a) (Tr.dp_ _ _ (.tup h1 h2)) rfl
    have dl := depth_le _ g
    refine repr_of_reads' r (gd_showable _ g) (PyData.noDict_hsm (gd_nodict _ g)) hg (by omega) (fun _ _ e => e) (fun h' k tk hk => ?_) (by omega)
    exact ⟨.str _, H, I.kept hk, ⟨k, rfl⟩, q⟩
end TK
namespace TK
open PySem L2
/-! ### the law's def, called where nothing is being shown -/
def RunG (P : Program) (w : World) (K : PySem.W.Frag) (mg : Str → Option Value) (base : Heap) (k : Nat) (f : Addr) (fd : FuncData) (ps : List Str) (sp : Sp) : Prop :=
  ∀ (A : Around) (outer : List Env) (s : Shared) (H : Hp) (args : Args) (us : List Value) (vs : List V) (Q : VK) (E : XK), A.guards = some [] → Room k A → Env0 P w K mg base A outer s H →
    BindsTo s fd args (ps.zip us) → Vals vs us → sp vs H Q E → codeAny (model P w) A (.call (.ref f) args) (CR CX0 outer P w H s Q E) s
theorem run_g {P : Program} {w : World} {K : PySem.W.Frag} {mg : Str → Option Value} {base : Heap} {x qual : Str} {st : Stmt} {f : Addr} {fd : FuncData} {N ps : List Str} {k : Nat} {sp : Sp} (F : Fun K x qual st f fd) (S : FnScope N ps (defScope st))
    (len : ∀ vs H Q E, sp vs H Q E → vs.length = ps.length)
    (hbody : ∀ (cdv : Value) (A : Around) (outer : List Env) (s : Shared) (H : Hp) (vs : List V) (Q : VK) (E : XK), A.guards = some [] → Room k (A.deeper (PyProof.Rows.envOfC qual (defScope st) s.heap.objs.size f cdv)) → sp vs H Q E →
      ∃ t, PSs (cxOf CX0 P w K mg base N qual (defScope st) f cdv A outer s H E).nox (defBody st) t ∧ t { nx := fun _ H' => Q .non H', rt := Q } (start N vs) H) : RunG P w K mg base (k + 1) f fd ps sp := by
  intro A outer s H args us vs Q E hg hr e0 hb rv hsp
  obtain ⟨oc, od, kV, doc, pm, an, cdv, ct, osl, rfl, lk, hcd⟩ := F.ex
  have hlen : vs.length = ps.length := len _ _ _ _ hsp
  have stay := fun b o (e : base.get? b = some o) => (e0.bs b o e).1
  have kin : K.In s.heap := e0.mod.kin.keeps stay
  have nol : s.heap.NoLimit := e0.mod.nolimit.keeps stay
  obtain ⟨t, ht, hq⟩ := hbody cdv A outer s H vs Q E hg (hr.deeper _) hsp
  refine PySem.codeAny_call_function hr.depth (kin _ _ lk) rfl S.co S.gen rfl (PySem.W.codeRec_of kin hcd) (hb _ _ _ _ ?_)
  refine PySem.wpAny_newFunctionEnv_cells S.kind ?_ ?_
  · rintro ⟨n, v⟩ hy
    have par := S.par n (List.of_mem_zip hy).1
    rcases par with par | par
    · exact Or.inl par
    · exact Or.inr ⟨par, PySem.W.cellsFrom_some _ _ _ (Or.inl par)⟩
  intro env he s1 xx
  subst he
  have J0 : Inv (cxOf CX0 P w K mg base N qual (defScope st) f cdv A outer s H E) [] (start N vs) H s1 := inv_start S hr.hd e0 hlen rv xx
  refine ⟨nol.keeps xx.toInCall.keep, PySem.codeAny_func (wpAny_mono (ht.nox.run [] s1 (start N vs) H _ J0 hq) ?_ fun e s' z => z)⟩
  intro fl s' z
  cases fl with
  | next =>
    obtain ⟨σ', H', J, q⟩ := z
    exact ⟨V.non, H', J.os, J.bare, J.base, J.hok, rfl, q⟩
  | ret u =>
    obtain ⟨v, σ', H', J, ru, q⟩ := z
    exact ⟨v, H', J.os, J.bare, J.base, J.hok, ru, q⟩
  | brk =>
    obtain ⟨σ', H', J, q⟩ := z
    exact q.elim
  | cont =>
    obtain ⟨σ', H', J, q⟩ := z
    exact q.elim
end TK
namespace TK
open PySem L2
/-! ### law -/
def spLaw (K : PySem.W.Frag) : Sp := fun vs H Q _ => ∃ (a : Addr) (ns : List Int), vs = [.ref a] ∧ SqL K H a (ns.map V.int) ∧ ns.length ≤ 63 ∧ ∀ H', Q (.bl true) H'
section
variable {P : Program} {w : World} {K : PySem.W.Frag} {mg : Str → Option Value} {base : Heap} {ad : Nm → Addr} {dd : Nm → FuncData}
theorem scLaw : FnScope ["_law_script", "_law_pen_here", "_law_turn", "_law_tree", "_law_text", "_law_kept"] ["_law_script"] (defScope sLaw) := ⟨rfl, rfl, rfl, by decide +kernel, rfl, by decide +kernel, by decide +kernel⟩
theorem run_law (T : Txt K mg ad dd) {fa : Addr} {fd : FuncData} (FL : Fun K "law" "law" sLaw fa fd) : RunG P w K mg base 31 fa fd ["_law_script"] (spLaw K) := by
  have GPen := ok_pen (P := P) (w := w) (base := base) T
  have GPick := ok_pick (P := P) (w := w) (base := base) T
  have GWide := ok_wide (P := P) (w := w) (base := base) T 5
  have GWrap := ok_wrap (P := P) (w := w) (base := base) T
  have GWrit := ok_writ (P := P) (w := w) (base := base) T 30
  have GWT := ok_wt (P := P) (w := w) (base := base) T
  have GRT := ok_rt (P := P) (w := w) (base := base) T
  refine run_g FL scLaw (fun vs H Q E h => ?_) (fun cdv A outer s H vs Q E hG hr h => ?_)
  · obtain ⟨a, ns, rfl, _⟩ := h
    rfl
  obtain ⟨a, ns, rfl, hS, hn, q⟩ := h
  have hU := hr.units
  have call_repr := fun (X : Cx) (e : X.A = A.deeper (PyProof.Rows.envOfC "law" (defScope sLaw) s.heap.objs.size fa cdv)) => call_repr_tree (X := X) (by rw [e]; exact hG) (by rw [e]; exact hU)
  refine ⟨_, (pss_cons (ps_set (i := 1) scLaw.nd rfl (Or.inl rfl) (pe_call GPen (hr.mono (by first | decide | omega)) rfl T.Pen.m T.Pen.F.kp T.Pen.b .nil pass0 (pa_cons (pv 0) pa_nil)))
      (pss_cons (ps_for PassesOwn.never rfl (pi_range1 rfl T.n_range (pa_cons (pe_op op_add pe_int (pe_callB (call_min2 rfl) (by rfl) T.n_min bt_min (pa_cons pe_int (pa_cons (pe_callB call_len_seq (by rfl) T.n_len bt_len (pa_cons (pv 0) pa_nil)) pa_nil)))) pa_nil)) (pg_name (i := 2) scLaw.nd rfl (Or.inl rfl)) (pss_cons (ps_set (i := 3) scLaw.nd rfl (Or.inl rfl) (pe_call GWide (hr.mono (by first | decide | omega)) rfl T.Wide.m T.Wide.F.kp T.Wide.b .nil pass0 (pa_cons (pv 1) (pa_cons (pe_call GPick (hr.mono (by first | decide | omega)) rfl T.Pick.m T.Pick.F.kp T.Pick.b .nil pass0 (pa_cons (pv 1) (pa_cons (pe_lst (pa_cons pe_int (pa_cons pe_int (pa_cons pe_int (pa_cons pe_int pa_nil))))) pa_nil))) pa_nil))))
      (pss_cons (ps_set (i := 3) scLaw.nd rfl (Or.inl rfl) (pe_call GWrap (hr.mono (by first | decide | omega)) rfl T.Wrap.m T.Wrap.F.kp T.Wrap.b .nil pass0 (pa_cons (pv 1) (pa_cons (pv 3) (pa_cons (pe_call GPick (hr.mono (by first | decide | omega)) rfl T.Pick.m T.Pick.F.kp T.Pick.b .nil pass0 (pa_cons (pv 1) (pa_cons (pe_lst (pa_cons pe_int (pa_cons pe_int (pa_cons pe_int (pa_cons pe_int pa_nil))))) pa_nil))) pa_nil)))))
      (pss_cons (ps_par (i := 4) (j := 5) rfl scLaw.nd rfl rfl (by decide) rfl rfl (pa_cons (pe_call GWrit (hr.mono (by first | decide | omega)) rfl T.Writ.m T.Writ.F.kp T.Writ.b .nil pass0 (pa_cons (pv 3) pa_nil)) (pa_cons (pe_callB (call_repr _ rfl) (by rfl) T.n_repr bt_repr (pa_cons (pv 3) pa_nil)) pa_nil)) rfl)
      (pss_cons (ps_if (PW.pt (pw_or (pt_cmpR op_ne (pe_call GWT (hr.mono (by first | decide | omega)) rfl T.WT.m T.WT.F.kp T.WT.b .nil pass0 (pa_cons (pv 3) pa_nil)) (pv 4) (nomark _)) (pw_or (pt_cmpR op_ne (pe_callB (call_repr _ rfl) (by rfl) T.n_repr bt_repr (pa_cons (pe_call GRT (hr.mono (by first | decide | omega)) rfl T.RT.m T.RT.F.kp T.RT.b .nil pass0 (pa_cons (pv 4) pa_nil)) pa_nil)) (pv 5) (nomark _)) (pw_or1 (pt_cmpR op_ne (pe_callB (call_repr _ rfl) (by rfl) T.n_repr bt_repr (pa_cons (pv 3) pa_nil)) (pv 5) (nomark _)))))) (pss_one (ps_ret pe_bl)) pss_nil)
      (pss_one (ps_if (pt_cmpR op_ne (pe_call GWT (hr.mono (by first | decide | omega)) rfl T.WT.m T.WT.F.kp T.WT.b .nil pass0 (pa_cons (pe_call GRT (hr.mono (by first | decide | omega)) rfl T.RT.m T.RT.F.kp T.RT.b .nil pass0 (pa_cons (pv 4) pa_nil)) pa_nil)) (pv 4) (nomark _)) (pss_one (ps_ret pe_bl)) pss_nil)))))))
      (pss_one (ps_ret pe_bl)))), ?_⟩
  refine ⟨_, rfl, a, ns, rfl, hS, fun d c H1 s1 dn p1 => ?_⟩
  have hl : (ns.map V.int).length = ns.length := List.length_map _
  have hj : ∃ j : Int, (6 : Int) + (if (((ns.map V.int).length : Nat) : Int) < 20 then (((ns.map V.int).length : Nat) : Int) else 20) = j ∧ 0 ≤ j ∧ j ≤ 26 := by
    refine ⟨_, rfl, ?_⟩
    split <;> omega
  obtain ⟨j, ej, j0, j1⟩ := hj
  refine ⟨_, rfl, a, _, rfl, .inl (s1.seq hS), _, _, rfl, _, _, rfl, rfl, _, rfl, ?_⟩
  rw [ej]
  refine ⟨by omega, by omega, for_range (n := j.toNat) (fun i σ H' => ∃ o2 o3 o4 o5 : Option V, σ = [some (.ref a), some (.ref d), o2, o3, o4, o5] ∧ PenAt H' d c (40000 * i)) ⟨none, none, none, none, rfl, p1⟩ ?_ ?_⟩
  · rintro i σ H2 hi ⟨o2, o3, o4, o5, rfl, p2⟩
    have hi' : i < 26 := by omega
    have w4 : wc 4 = 34100 := by decide
    have wp4 : wp 4 = 341 := by decide
    -- the tree
    refine ⟨_, rfl, _, rfl, (by show 4 ≤ sizeLine; decide), fun l hl => ?_⟩
    have s3 := same_new hl (.lst [.int 0, .int 1, .int 3, .int 4])
    refine ⟨d, c, 40000 * i, _, rfl, p2.same s3, by omega, .inl ⟨l, _, rfl, upd_same, (by show 0 < 4; decide), (by show 4 < 1000; decide), fun y H4 hy b4 p4 => ?_⟩⟩
    have hy' : ∃ jj : Nat, y = .int (jj : Int) ∧ jj ≤ 4 ∧ wc jj ≤ 34100 ∧ wp jj ≤ 341 := by
      have h : y = .int 0 ∨ y = .int 1 ∨ y = .int 3 ∨ y = .int 4 := by simpa using hy
      rcases h with rfl | rfl | rfl | rfl
      · exact ⟨0, rfl, by decide, by decide, by decide⟩
      · exact ⟨1, rfl, by decide, by decide, by decide⟩
      · exact ⟨3, rfl, by decide, by decide, by decide⟩
      · exact ⟨4, rfl, by decide, by decide, by decide⟩
    obtain ⟨jj, rfl, jl, wcl, wpl⟩ := hy'
    refine ⟨d, c, 40000 * i + 1, jj, rfl, by omega, p4, by omega, fun x t H5 tr5 g5 d5 q5 b5 p5 => ?_⟩
    have p5' : PenAt H5 d c (40000 * i + 34101) := p5.mono (by omega)
    -- wrapped
    refine ⟨_, rfl, _, rfl, _, rfl, (by show 4 ≤ sizeLine; decide), fun l6 hl6 => ?_⟩
    have s6 := same_new hl6 (.lst [.int 0, .int 0, .int 3, .int 25])
    refine ⟨d, c, 40000 * i + 34101, _, rfl, p5'.same s6, by omega, .inl ⟨l6, _, rfl, upd_same, (by show 0 < 4; decide), (by show 4 < 1000; decide), fun y H7 hy b7 p7 => ?_⟩⟩
    have hy' : ∃ jj : Nat, y = .int (jj : Int) ∧ jj ≤ 25 := by
      have h : y = .int 0 ∨ y = .int 3 ∨ y = .int 25 := by simpa using hy
      rcases h with rfl | rfl | rfl
      · exact ⟨0, rfl, by decide⟩
      · exact ⟨3, rfl, by decide⟩
      · exact ⟨25, rfl, by decide⟩
    obtain ⟨m, rfl, ml⟩ := hy'
    have tr7 := Tr.keep (Tups.trans (Tups.of_same s6) (Tups.of_but b7 (p5'.same s6))) _ _ tr5
    refine ⟨d, c, 40000 * i + 34102, m, x, t, rfl, ml, p7, by omega, tr7, g5, fun y u H8 tr8 g8 d8 q8 b8 p8 => ?_⟩
    have du : dp u ≤ 30 := by omega
    have pu : pts u ≤ 2000 := by omega
    -- its text, its repr
    refine ⟨_, rfl, y, u, rfl, tr8, g8, du, pu, fun H9 s9 => ?_⟩
    have tr9 := Tr.keep (Tups.of_same s9) _ _ tr8
    refine ⟨_, rfl, y, u, rfl, tr9, g8, du, pu, _, _, rfl, ?_⟩
    -- written and read
    refine ⟨_, rfl, y, u, rfl, tr9, g8, pu, fun Ha sa => ⟨_, rfl, rfl, _, rfl, ?_⟩⟩
    rw [str_eq]
    refine iteF ⟨_, rfl, u, rfl, g8, du, pu, fun x' Hb sb trb => ?_⟩
    refine ⟨x', u, rfl, trb, g8, du, pu, _, rfl, rfl, _, rfl, ?_⟩
    rw [decide_eq_true (show V.str u.shown = V.str u.shown from rfl)]
    have trb' := Tr.keep (Tups.of_same (sa.trans sb)) _ _ tr9
    refine iteF ⟨_, rfl, y, u, rfl, trb', g8, du, pu, _, rfl, rfl, _, rfl, ?_⟩
    rw [decide_eq_true (show V.str u.shown = V.str u.shown from rfl)]
    refine iteF ⟨_, rfl, u, rfl, g8, du, pu, fun x2 Hc sc trc => ?_⟩
    refine ⟨x2, u, rfl, trc, g8, pu, fun Hd sd => ⟨_, rfl, rfl, _, rfl, ?_⟩⟩
    rw [str_eq]
    refine iteF ⟨_, _, _, _, rfl, ?_⟩
    exact ((((p8.same s9).same sa).same sb).same sc |>.same sd).mono (by omega)
  · rintro σ H2 ⟨o2, o3, o4, o5, rfl, p2⟩
    exact q _
end
end TK
namespace TK
open PySem L2 PyProof.Rows
/-! ### from the top to the law -/
section
variable {P : Program} {w : World} {K : PySem.W.Frag} {mg mb : Str → Option Value} {k : Nat} {fa a : Addr} {fd : FuncData} {x : Str} {sp : Sp} {s : Shared} {vs : List Value} {ns : List Int}
/-- what the claim wants of the call -/
abbrev Told (s : Shared) : Result → Shared → Prop := fun r s' => r = .ok (.ret (.bool true)) ∧ OldK s.heap s'.heap ∧ s'.os = s.os ∧ AllBare s'.gens
theorem head_core (kin : K.In s.heap) (nm : s.heap.Ns PySem.mainGlobals mg) (nb : s.heap.Ns PySem.builtinsNs mb) (bb : ∀ y : Str, y ≠ "__name__" → mb y = bootBuiltins y) (nol : s.heap.NoLimit) (gn : s.gens = #[])
    (ho : s.heap.get? a = some { cls := .type "list", data := .seq vs.toArray }) (hr : Room k callerA)
    (F : ∀ base : Heap, K.In base → base.Ns PySem.mainGlobals mg → RunG P w K mg base k fa fd [x] sp) (bd : ∀ (s : Shared) (u : Value), BindsTo s fd ⟨[u], []⟩ [(x, u)])
    {H : Hp} (only : Only H) (hok : HOk P w H s.heap) (at_a : ∀ b, H b ≠ none → b = a) (away : H a ≠ none → K.lookup a = none)
    (hsp : sp [.ref a] H (fun v _ => v = .bl true) fun _ _ _ => False) : codeAny (model P w) callerA (.call (.ref fa) ⟨[.ref a], []⟩) (Told s) s := by
  have same_a : ∀ {b : Addr} {o : HO}, H b = some o → b = a := fun {b o} e => at_a b fun z => by rw [z] at e; cases e
  have low : ∀ {b : Addr} {o : Obj}, s.heap.get? b = some o → H b = none → (hidT s.heap H).get? b = some o := fun e n => hidT_get e n
  have free_dict : ∀ {b : Addr} {o : Obj} {es : Array DictEntry} {ep : Nat}, s.heap.get? b = some o → o.data = .dict es ep → H b = none := by
    intro b o es ep e dt
    cases hb : H b with
    | none => rfl
    | some ob =>
      rw [same_a hb, ho] at e
      cases e
      cases (show Data.seq vs.toArray _ = Data.dict es ep from dt)
  have lowNs : ∀ {b : Addr} {m : Str → Option Value}, s.heap.Ns b m → (hidT s.heap H).Ns b m := by
    rintro b m ⟨o, es, ep, e, dt, z⟩
    exact ⟨o, es, ep, low e (free_dict e dt), dt, z⟩
  have lowK : K.In (hidT s.heap H) := by
    intro b o e
    refine low (kin b o e) ?_
    cases hb : H b with
    | none => rfl
    | some ob =>
      have eb := same_a hb
      subst eb
      rw [away (by rw [hb]; exact fun z => by cases z)] at e
      cases e
  obtain ⟨mc, n1, n2⟩ := nol
  have md : Mod K mg (hidT s.heap H) := ⟨lowK, lowNs nm, ⟨mb, lowNs nb, bb⟩, ⟨mc, lowNs n1, n2⟩⟩
  have nil : ∀ b : Addr, b ∉ ([] : List Addr) := fun b z => by cases z
  have en : Env0 P w K mg (hidT s.heap H) callerA [] s H := ⟨rfl, md, fun b o e => of_hidT e, Nat.le_of_eq (hidT_size _ _), True.intro, fun b hb => (nil b hb).elim, hok, .of_eq gn⟩
  have run := F _ lowK (lowNs nm) callerA [] s H ⟨[.ref a], []⟩ [.ref a] [.ref a] _ _ rfl hr en (bd s (.ref a)) (.cons rfl .nil) hsp
  refine PySem.codeAny_mono run ?_
  intro r s' z
  rcases r with e | fl
  · exact z.elim
  cases fl with
  | ret u =>
    obtain ⟨v, H', os, bare, un, hok', ru, rfl⟩ := z
    obtain rfl : u = Value.bool true := ru
    refine ⟨rfl, OldK.of_keep fun b o e => ?_, os, bare⟩
    rcases only b with n | ⟨ob, xs, n⟩
    · exact un.keep b o e n (nil b) (nil b)
    · have here := (hok b _ n).1
      have there := (hok' b _ (un.frzs b ob _ n)).1
      rw [e] at here
      cases here
      exact there
  | next => exact z.elim
  | brk => exact z.elim
  | cont => exact z.elim
theorem head_g (kin : K.In s.heap) (nm : s.heap.Ns PySem.mainGlobals mg) (nb : s.heap.Ns PySem.builtinsNs mb) (bb : ∀ y : Str, y ≠ "__name__" → mb y = bootBuiltins y) (nol : s.heap.NoLimit) (gn : s.gens = #[])
    (ho : s.heap.get? a = some { cls := .type "list", data := .seq vs.toArray }) (ia : IntsAre vs ns) (sz : ns.length ≤ sizeLine) (hr : Room k callerA)
    (F : ∀ base : Heap, K.In base → base.Ns PySem.mainGlobals mg → RunG P w K mg base k fa fd [x] sp) (bd : ∀ (s : Shared) (u : Value), BindsTo s fd ⟨[u], []⟩ [(x, u)])
    (hsp : ∀ H : Hp, Only H → SqL K H a (ns.map V.int) → sp [.ref a] H (fun v _ => v = .bl true) fun _ _ _ => False) : codeAny (model P w) callerA (.call (.ref fa) ⟨[.ref a], []⟩) (Told s) s := by
  have vv := vals_ints ia
  have lv := ia.length
  cases hk : K.lookup a with
  | some o =>
    have e := kin a o hk
    rw [ho] at e
    cases e
    have on : Only fun _ => none := fun _ => Or.inl rfl
    exact head_core kin nm nb bb nol gn ho hr F bd on (fun b u z => by cases z) (fun b z => (z rfl).elim) (fun z => (z rfl).elim)
      (hsp _ on (Or.inr ⟨_, vs.toArray, _, hk, rfl, rfl, rfl, by rw [List.size_toArray, lv]; exact sz, vv⟩))
  | none =>
    let o : Obj := { cls := .type "list", data := .seq vs.toArray }
    have yes : (fun b => if b = a then some (HO.frz o (.lst (ns.map V.int))) else none : Hp) a = some (.frz o (.lst (ns.map V.int))) := if_pos rfl
    have no : ∀ b, b ≠ a → (fun b => if b = a then some (HO.frz o (.lst (ns.map V.int))) else none : Hp) b = none := fun b n => if_neg n
    generalize (fun b => if b = a then some (HO.frz o (.lst (ns.map V.int))) else none : Hp) = H at yes no
    have on : Only H := fun b => by
      by_cases c : b = a
      · exact Or.inr ⟨_, _, c ▸ yes⟩
      · exact Or.inl (no b c)
    refine head_core kin nm nb bb nol gn ho hr F bd on (fun b u z => ?_) (fun b z => ?_) (fun _ => hk) (hsp H on (Or.inl (Or.inr ⟨o, yes⟩)))
    · by_cases c : b = a
      · subst c
        rw [yes] at z
        cases z
        exact ⟨ho, by rw [List.length_map]; exact sz, vs, _, vv, ho⟩
      · rw [no b c] at z
        cases z
    · by_cases c : b = a
      · exact c
      · exact (z (no b c)).elim
end
end TK
namespace TK
open PySem L2 PyProof.Rows
/-! ### the top: what stands there -/
theorem all_mk {l : PySem.W.OpenLaw} {w : World} {K : PySem.W.Frag} {h : Heap} {mg : Str → Option Value} {fa C : Addr} (X : K.In h) (G : h.Ns mainGlobals mg) (hfa : mg "law" = some (.ref fa))
    {fPen fDraw fPick fStrg fSing fWide fWrap fWrit fWT fLeaf fDig fRT fPlain fRI fRW fRB fRG fRE fRF fRS fRN fRQ fLaw : Addr} {odPen anPen odDraw anDraw odPick anPick odStrg anStrg odSing anSing odWide anWide odWrap anWrap odWrit anWrit odWT anWT odLeaf anLeaf odDig anDig odRT anRT odPlain anPlain odRI anRI odRW anRW odRB anRB odRG anRG odRE anRE odRF anRF odRS anRS odRN anRN odRQ anRQ odLaw anLaw : Option Addr} {slPen slDraw slPick slStrg slSing slWide slWrap slWrit slWT slLeaf slDig slRT slPlain slRI slRW slRB slRG slRE slRF slRS slRN slRQ slLaw : Array (Option Value)}
    {ocPen kVPen dcPen pmPen cdPen ctPen ocDraw kVDraw dcDraw pmDraw cdDraw ctDraw ocPick kVPick dcPick pmPick cdPick ctPick ocStrg kVStrg dcStrg pmStrg cdStrg ctStrg ocSing kVSing dcSing pmSing cdSing ctSing ocWide kVWide dcWide pmWide cdWide ctWide ocWrap kVWrap dcWrap pmWrap cdWrap ctWrap ocWrit kVWrit dcWrit pmWrit cdWrit ctWrit ocWT kVWT dcWT pmWT cdWT ctWT ocLeaf kVLeaf dcLeaf pmLeaf cdLeaf ctLeaf ocDig kVDig dcDig pmDig cdDig ctDig ocRT kVRT dcRT pmRT cdRT ctRT ocPlain kVPlain dcPlain pmPlain cdPlain ctPlain ocRI kVRI dcRI pmRI cdRI ctRI ocRW kVRW dcRW pmRW cdRW ctRW ocRB kVRB dcRB pmRB cdRB ctRB ocRG kVRG dcRG pmRG cdRG ctRG ocRE kVRE dcRE pmRE cdRE ctRE ocRF kVRF dcRF pmRF cdRF ctRF ocRS kVRS dcRS pmRS cdRS ctRS ocRN kVRN dcRN pmRN cdRN ctRN ocRQ kVRQ dcRQ pmRQ cdRQ ctRQ ocLaw kVLaw dcLaw pmLaw cdLaw ctLaw : Value} {vPARTS vDEEP vDIGITS vPIECED vPIECE : Int} {tPARTS tDEEP tDIGITS tPIECED tPIECE : Tok}
    (aC : PySem.W.nsIn K mainGlobals "Reader" = some (some (.ref C)))
    (aPen : PySem.W.nsIn K mainGlobals "_law_pen" = some (some (.ref fPen)))
    (lPen : K.lookup fPen = some ⟨ocPen, odPen, .func (PySem.W.fnOf "_law_pen" "_law_pen" (defArgs sPen) (defBody sPen) (defScope sPen) .none kVPen dcPen pmPen anPen cdPen ctPen), slPen⟩)
    (cPen : PySem.W.codeIn K cdPen "_law_pen" = true) (kPen : PySem.W.keepIn K (.ref fPen) = true)
    (aDraw : PySem.W.nsIn K mainGlobals "_law_draw" = some (some (.ref fDraw)))
    (lDraw : K.lookup fDraw = some ⟨ocDraw, odDraw, .func (PySem.W.fnOf "_law_draw" "_law_draw" (defArgs sDraw) (defBody sDraw) (defScope sDraw) .none kVDraw dcDraw pmDraw anDraw cdDraw ctDraw), slDraw⟩)
    (cDraw : PySem.W.codeIn K cdDraw "_law_draw" = true) (kDraw : PySem.W.keepIn K (.ref fDraw) = true)
    (aPick : PySem.W.nsIn K mainGlobals "_law_pick" = some (some (.ref fPick)))
    (lPick : K.lookup fPick = some ⟨ocPick, odPick, .func (PySem.W.fnOf "_law_pick" "_law_pick" (defArgs sPick) (defBody sPick) (defScope sPick) .none kVPick dcPick pmPick anPick cdPick ctPick), slPick⟩)
    (cPick : PySem.W.codeIn K cdPick "_law_pick" = true) (kPick : PySem.W.keepIn K (.ref fPick) = true)
    (aStrg : PySem.W.nsIn K mainGlobals "_law_string" = some (some (.ref fStrg)))
    (lStrg : K.lookup fStrg = some ⟨ocStrg, odStrg, .func (PySem.W.fnOf "_law_string" "_law_string" (defArgs sStrg) (defBody sStrg) (defScope sStrg) .none kVStrg dcStrg pmStrg anStrg cdStrg ctStrg), slStrg⟩)
    (cStrg : PySem.W.codeIn K cdStrg "_law_string" = true) (kStrg : PySem.W.keepIn K (.ref fStrg) = true)
    (aSing : PySem.W.nsIn K mainGlobals "_law_single" = some (some (.ref fSing)))
    (lSing : K.lookup fSing = some ⟨ocSing, odSing, .func (PySem.W.fnOf "_law_single" "_law_single" (defArgs sSing) (defBody sSing) (defScope sSing) .none kVSing dcSing pmSing anSing cdSing ctSing), slSing⟩)
    (cSing : PySem.W.codeIn K cdSing "_law_single" = true) (kSing : PySem.W.keepIn K (.ref fSing) = true)
    (aWide : PySem.W.nsIn K mainGlobals "_law_wide" = some (some (.ref fWide)))
    (lWide : K.lookup fWide = some ⟨ocWide, odWide, .func (PySem.W.fnOf "_law_wide" "_law_wide" (defArgs sWide) (defBody sWide) (defScope sWide) .none kVWide dcWide pmWide anWide cdWide ctWide), slWide⟩)
    (cWide : PySem.W.codeIn K cdWide "_law_wide" = true) (kWide : PySem.W.keepIn K (.ref fWide) = true)
    (aWrap : PySem.W.nsIn K mainGlobals "_law_wrapped" = some (some (.ref fWrap)))
    (lWrap : K.lookup fWrap = some ⟨ocWrap, odWrap, .func (PySem.W.fnOf "_law_wrapped" "_law_wrapped" (defArgs sWrap) (defBody sWrap) (defScope sWrap) .none kVWrap dcWrap pmWrap anWrap cdWrap ctWrap), slWrap⟩)
    (cWrap : PySem.W.codeIn K cdWrap "_law_wrapped" = true) (kWrap : PySem.W.keepIn K (.ref fWrap) = true)
    (aWrit : PySem.W.nsIn K mainGlobals "_law_written" = some (some (.ref fWrit)))
    (lWrit : K.lookup fWrit = some ⟨ocWrit, odWrit, .func (PySem.W.fnOf "_law_written" "_law_written" (defArgs sWrit) (defBody sWrit) (defScope sWrit) .none kVWrit dcWrit pmWrit anWrit cdWrit ctWrit), slWrit⟩)
    (cWrit : PySem.W.codeIn K cdWrit "_law_written" = true) (kWrit : PySem.W.keepIn K (.ref fWrit) = true)
    (aWT : PySem.W.nsIn K mainGlobals "write_tree" = some (some (.ref fWT)))
    (lWT : K.lookup fWT = some ⟨ocWT, odWT, .func (PySem.W.fnOf "write_tree" "write_tree" (defArgs sWT) (defBody sWT) (defScope sWT) .none kVWT dcWT pmWT anWT cdWT ctWT), slWT⟩)
    (cWT : PySem.W.codeIn K cdWT "write_tree" = true) (kWT : PySem.W.keepIn K (.ref fWT) = true)
    (aLeaf : PySem.W.nsIn K mainGlobals "_leaf_text" = some (some (.ref fLeaf)))
    (lLeaf : K.lookup fLeaf = some ⟨ocLeaf, odLeaf, .func (PySem.W.fnOf "_leaf_text" "_leaf_text" (defArgs sLeaf) (defBody sLeaf) (defScope sLeaf) .none kVLeaf dcLeaf pmLeaf anLeaf cdLeaf ctLeaf), slLeaf⟩)
    (cLeaf : PySem.W.codeIn K cdLeaf "_leaf_text" = true) (kLeaf : PySem.W.keepIn K (.ref fLeaf) = true)
    (aDig : PySem.W.nsIn K mainGlobals "_digits" = some (some (.ref fDig)))
    (lDig : K.lookup fDig = some ⟨ocDig, odDig, .func (PySem.W.fnOf "_digits" "_digits" (defArgs sDig) (defBody sDig) (defScope sDig) .none kVDig dcDig pmDig anDig cdDig ctDig), slDig⟩)
    (cDig : PySem.W.codeIn K cdDig "_digits" = true) (kDig : PySem.W.keepIn K (.ref fDig) = true)
    (aRT : PySem.W.nsIn K mainGlobals "read_tree" = some (some (.ref fRT)))
    (lRT : K.lookup fRT = some ⟨ocRT, odRT, .func (PySem.W.fnOf "read_tree" "read_tree" (defArgs sRT) (defBody sRT) (defScope sRT) .none kVRT dcRT pmRT anRT cdRT ctRT), slRT⟩)
    (cRT : PySem.W.codeIn K cdRT "read_tree" = true) (kRT : PySem.W.keepIn K (.ref fRT) = true)
    (aPlain : PySem.W.nsIn K mainGlobals "is_plain" = some (some (.ref fPlain)))
    (lPlain : K.lookup fPlain = some ⟨ocPlain, odPlain, .func (PySem.W.fnOf "is_plain" "is_plain" (defArgs sPlain) (defBody sPlain) (defScope sPlain) .none kVPlain dcPlain pmPlain anPlain cdPlain ctPlain), slPlain⟩)
    (cPlain : PySem.W.codeIn K cdPlain "is_plain" = true) (kPlain : PySem.W.keepIn K (.ref fPlain) = true)
    (aRI : PySem.W.findIn K (.ref C) "__init__" = some (some (.ref fRI))) (iRI : PySem.W.isFn K (.ref fRI) = true)
    (lRI : K.lookup fRI = some ⟨ocRI, odRI, .func (PySem.W.fnOf "__init__" "Reader.__init__" (defArgs sRI) (defBody sRI) (defScope sRI) .none kVRI dcRI pmRI anRI cdRI ctRI), slRI⟩)
    (cRI : PySem.W.codeIn K cdRI "Reader.__init__" = true) (kRI : PySem.W.keepIn K (.ref fRI) = true)
    (aRW : PySem.W.findIn K (.ref C) "whole" = some (some (.ref fRW))) (iRW : PySem.W.isFn K (.ref fRW) = true)
    (lRW : K.lookup fRW = some ⟨ocRW, odRW, .func (PySem.W.fnOf "whole" "Reader.whole" (defArgs sRW) (defBody sRW) (defScope sRW) .none kVRW dcRW pmRW anRW cdRW ctRW), slRW⟩)
    (cRW : PySem.W.codeIn K cdRW "Reader.whole" = true) (kRW : PySem.W.keepIn K (.ref fRW) = true)
    (aRB : PySem.W.findIn K (.ref C) "begin_part" = some (some (.ref fRB))) (iRB : PySem.W.isFn K (.ref fRB) = true)
    (lRB : K.lookup fRB = some ⟨ocRB, odRB, .func (PySem.W.fnOf "begin_part" "Reader.begin_part" (defArgs sRB) (defBody sRB) (defScope sRB) .none kVRB dcRB pmRB anRB cdRB ctRB), slRB⟩)
    (cRB : PySem.W.codeIn K cdRB "Reader.begin_part" = true) (kRB : PySem.W.keepIn K (.ref fRB) = true)
    (aRG : PySem.W.findIn K (.ref C) "go_on" = some (some (.ref fRG))) (iRG : PySem.W.isFn K (.ref fRG) = true)
    (lRG : K.lookup fRG = some ⟨ocRG, odRG, .func (PySem.W.fnOf "go_on" "Reader.go_on" (defArgs sRG) (defBody sRG) (defScope sRG) .none kVRG dcRG pmRG anRG cdRG ctRG), slRG⟩)
    (cRG : PySem.W.codeIn K cdRG "Reader.go_on" = true) (kRG : PySem.W.keepIn K (.ref fRG) = true)
    (aRE : PySem.W.findIn K (.ref C) "end_part" = some (some (.ref fRE))) (iRE : PySem.W.isFn K (.ref fRE) = true)
    (lRE : K.lookup fRE = some ⟨ocRE, odRE, .func (PySem.W.fnOf "end_part" "Reader.end_part" (defArgs sRE) (defBody sRE) (defScope sRE) .none kVRE dcRE pmRE anRE cdRE ctRE), slRE⟩)
    (cRE : PySem.W.codeIn K cdRE "Reader.end_part" = true) (kRE : PySem.W.keepIn K (.ref fRE) = true)
    (aRF : PySem.W.findIn K (.ref C) "following" = some (some (.ref fRF))) (iRF : PySem.W.isFn K (.ref fRF) = true)
    (lRF : K.lookup fRF = some ⟨ocRF, odRF, .func (PySem.W.fnOf "following" "Reader.following" (defArgs sRF) (defBody sRF) (defScope sRF) .none kVRF dcRF pmRF anRF cdRF ctRF), slRF⟩)
    (cRF : PySem.W.codeIn K cdRF "Reader.following" = true) (kRF : PySem.W.keepIn K (.ref fRF) = true)
    (aRS : PySem.W.findIn K (.ref C) "spell" = some (some (.ref fRS))) (iRS : PySem.W.isFn K (.ref fRS) = true)
    (lRS : K.lookup fRS = some ⟨ocRS, odRS, .func (PySem.W.fnOf "spell" "Reader.spell" (defArgs sRS) (defBody sRS) (defScope sRS) .none kVRS dcRS pmRS anRS cdRS ctRS), slRS⟩)
    (cRS : PySem.W.codeIn K cdRS "Reader.spell" = true) (kRS : PySem.W.keepIn K (.ref fRS) = true)
    (aRN : PySem.W.findIn K (.ref C) "read_number" = some (some (.ref fRN))) (iRN : PySem.W.isFn K (.ref fRN) = true)
    (lRN : K.lookup fRN = some ⟨ocRN, odRN, .func (PySem.W.fnOf "read_number" "Reader.read_number" (defArgs sRN) (defBody sRN) (defScope sRN) .none kVRN dcRN pmRN anRN cdRN ctRN), slRN⟩)
    (cRN : PySem.W.codeIn K cdRN "Reader.read_number" = true) (kRN : PySem.W.keepIn K (.ref fRN) = true)
    (aRQ : PySem.W.findIn K (.ref C) "read_string" = some (some (.ref fRQ))) (iRQ : PySem.W.isFn K (.ref fRQ) = true)
    (lRQ : K.lookup fRQ = some ⟨ocRQ, odRQ, .func (PySem.W.fnOf "read_string" "Reader.read_string" (defArgs sRQ) (defBody sRQ) (defScope sRQ) .none kVRQ dcRQ pmRQ anRQ cdRQ ctRQ), slRQ⟩)
    (cRQ : PySem.W.codeIn K cdRQ "Reader.read_string" = true) (kRQ : PySem.W.keepIn K (.ref fRQ) = true)
    (aLaw : PySem.W.nsIn K mainGlobals "law" = some (some (.ref fLaw)))
    (lLaw : K.lookup fLaw = some ⟨ocLaw, odLaw, .func (PySem.W.fnOf "law" "law" (defArgs sLaw) (defBody sLaw) (defScope sLaw) .none kVLaw dcLaw pmLaw anLaw cdLaw ctLaw), slLaw⟩)
    (cLaw : PySem.W.codeIn K cdLaw "law" = true) (kLaw : PySem.W.keepIn K (.ref fLaw) = true)
    (pg : PySem.W.plainGet K C Str.empty = true) (hd : PySem.W.hasDictIn K C = true) (po : PySem.W.plainOver K C = true) (sa : PySem.W.findIn K (.ref C) "__setattr__" = some (some (.builtin "object.__setattr__")))
    (mk : PySem.W.makesIn K C = true) (kc : PySem.W.keepIn K (.ref C) = true)
    (n_text : PySem.W.findIn K (.ref C) "text" = some none)
    (n_most_parts : PySem.W.findIn K (.ref C) "most_parts" = some none)
    (n_most_deep : PySem.W.findIn K (.ref C) "most_deep" = some none)
    (n_at : PySem.W.findIn K (.ref C) "at" = some none)
    (n_many : PySem.W.findIn K (.ref C) "many" = some none)
    (n_unclosed : PySem.W.findIn K (.ref C) "unclosed" = some none)
    (n_result : PySem.W.findIn K (.ref C) "result" = some none)
    (z_len : PySem.W.nsIn K mainGlobals "len" = some none)
    (z_int : PySem.W.nsIn K mainGlobals "int" = some none)
    (z_abs : PySem.W.nsIn K mainGlobals "abs" = some none)
    (z_list : PySem.W.nsIn K mainGlobals "list" = some none)
    (z_str : PySem.W.nsIn K mainGlobals "str" = some none)
    (z_tuple : PySem.W.nsIn K mainGlobals "tuple" = some none)
    (z_bool : PySem.W.nsIn K mainGlobals "bool" = some none)
    (z_range : PySem.W.nsIn K mainGlobals "range" = some none)
    (z_min : PySem.W.nsIn K mainGlobals "min" = some none)
    (z_repr : PySem.W.nsIn K mainGlobals "repr" = some none)
    (z_divmod : PySem.W.nsIn K mainGlobals "divmod" = some none)
    (z_reversed : PySem.W.nsIn K mainGlobals "reversed" = some none)
    (z_isinstance : PySem.W.nsIn K mainGlobals "isinstance" = some none)
    (gPARTS : PySem.W.nsIn K mainGlobals "MOST_PARTS" = some (some (.int vPARTS tPARTS))) (ePARTS : vPARTS = 2000)
    (gDEEP : PySem.W.nsIn K mainGlobals "MOST_DEEP" = some (some (.int vDEEP tDEEP))) (eDEEP : vDEEP = 30)
    (gDIGITS : PySem.W.nsIn K mainGlobals "MOST_DIGITS" = some (some (.int vDIGITS tDIGITS))) (eDIGITS : vDIGITS = 100)
    (gPIECED : PySem.W.nsIn K mainGlobals "PIECE_DIGITS" = some (some (.int vPIECED tPIECED))) (ePIECED : vPIECED = 64)
    (gPIECE : PySem.W.nsIn K mainGlobals "PIECE" = some (some (.int vPIECE tPIECE))) (ePIECE : vPIECE = 10 ^ 64) :
    ∃ fd : FuncData, (∀ (s : Shared) (v : Value), BindsTo s fd ⟨[v], []⟩ [("_law_script", v)]) ∧ ∀ base : Heap, K.In base → base.Ns mainGlobals mg → RunG l.prog w K mg base 31 fa fd ["_law_script"] (spLaw K) := by
  have e := hfa.symm.trans (PySem.W.mg_of X G aLaw)
  cases e
  subst ePARTS eDEEP eDIGITS ePIECED ePIECE
  have FPen := fun_mk (st := sPen) lPen cPen kPen
  have FDraw := fun_mk (st := sDraw) lDraw cDraw kDraw
  have FPick := fun_mk (st := sPick) lPick cPick kPick
  have FStrg := fun_mk (st := sStrg) lStrg cStrg kStrg
  have FSing := fun_mk (st := sSing) lSing cSing kSing
  have FWide := fun_mk (st := sWide) lWide cWide kWide
  have FWrap := fun_mk (st := sWrap) lWrap cWrap kWrap
  have FWrit := fun_mk (st := sWrit) lWrit cWrit kWrit
  have FWT := fun_mk (st := sWT) lWT cWT kWT
  have FLeaf := fun_mk (st := sLeaf) lLeaf cLeaf kLeaf
  have FDig := fun_mk (st := sDig) lDig cDig kDig
  have FRT := fun_mk (st := sRT) lRT cRT kRT
  have FPlain := fun_mk (st := sPlain) lPlain cPlain kPlain
  have FRI := fun_mk (st := sRI) lRI cRI kRI
  have FRW := fun_mk (st := sRW) lRW cRW kRW
  have FRB := fun_mk (st := sRB) lRB cRB kRB
  have FRG := fun_mk (st := sRG) lRG cRG kRG
  have FRE := fun_mk (st := sRE) lRE cRE kRE
  have FRF := fun_mk (st := sRF) lRF cRF kRF
  have FRS := fun_mk (st := sRS) lRS cRS kRS
  have FRN := fun_mk (st := sRN) lRN cRN kRN
  have FRQ := fun_mk (st := sRQ) lRQ cRQ kRQ
  have FLaw := fun_mk (st := sLaw) lLaw cLaw kLaw
  have bPen := FPen.binds (ps := ["_law_script"]) fun _ _ _ _ _ _ us hl => match us, hl with | [_], _ => rfl
  have bDraw := FDraw.binds (ps := ["_law_pen_here", "_law_many"]) fun _ _ _ _ _ _ us hl => match us, hl with | [_, _], _ => rfl
  have bPick := FPick.binds (ps := ["_law_pen_here", "_law_items"]) fun _ _ _ _ _ _ us hl => match us, hl with | [_, _], _ => rfl
  have bStrg := FStrg.binds (ps := ["_law_pen_here"]) fun _ _ _ _ _ _ us hl => match us, hl with | [_], _ => rfl
  have bSing := FSing.binds (ps := ["_law_pen_here"]) fun _ _ _ _ _ _ us hl => match us, hl with | [_], _ => rfl
  have bWide := FWide.binds (ps := ["_law_pen_here", "_law_deep"]) fun _ _ _ _ _ _ us hl => match us, hl with | [_, _], _ => rfl
  have bWrap := FWrap.binds (ps := ["_law_pen_here", "_law_tree", "_law_many"]) fun _ _ _ _ _ _ us hl => match us, hl with | [_, _, _], _ => rfl
  have bWrit := FWrit.binds (ps := ["_law_tree"]) fun _ _ _ _ _ _ us hl => match us, hl with | [_], _ => rfl
  have bWT := FWT.binds (ps := ["tree"]) fun _ _ _ _ _ _ us hl => match us, hl with | [_], _ => rfl
  have bLeaf := FLeaf.binds (ps := ["leaf"]) fun _ _ _ _ _ _ us hl => match us, hl with | [_], _ => rfl
  have bDig := FDig.binds (ps := ["n"]) fun _ _ _ _ _ _ us hl => match us, hl with | [_], _ => rfl
  have bRT := FRT.binds (ps := ["text"]) fun _ _ _ _ _ _ us hl => match us, hl with | [_], _ => rfl
  have bPlain := FPlain.binds (ps := ["sign"]) fun _ _ _ _ _ _ us hl => match us, hl with | [_], _ => rfl
  have bRI := FRI.binds (ps := ["self", "text", "most_parts", "most_deep"]) fun _ _ _ _ _ _ us hl => match us, hl with | [_, _, _, _], _ => rfl
  have bRW := FRW.binds (ps := ["self"]) fun _ _ _ _ _ _ us hl => match us, hl with | [_], _ => rfl
  have bRB := FRB.binds (ps := ["self"]) fun _ _ _ _ _ _ us hl => match us, hl with | [_], _ => rfl
  have bRG := FRG.binds (ps := ["self"]) fun _ _ _ _ _ _ us hl => match us, hl with | [_], _ => rfl
  have bRE := FRE.binds (ps := ["self", "part"]) fun _ _ _ _ _ _ us hl => match us, hl with | [_, _], _ => rfl
  have bRF := FRF.binds (ps := ["self"]) fun _ _ _ _ _ _ us hl => match us, hl with | [_], _ => rfl
  have bRS := FRS.binds (ps := ["self", "signs"]) fun _ _ _ _ _ _ us hl => match us, hl with | [_, _], _ => rfl
  have bRN := FRN.binds (ps := ["self"]) fun _ _ _ _ _ _ us hl => match us, hl with | [_], _ => rfl
  have bRQ := FRQ.binds (ps := ["self"]) fun _ _ _ _ _ _ us hl => match us, hl with | [_], _ => rfl
  have T : Txt K mg (fun n => match n with | .Pen => fPen | .Draw => fDraw | .Pick => fPick | .Strg => fStrg | .Sing => fSing | .Wide => fWide | .Wrap => fWrap | .Writ => fWrit | .WT => fWT | .Leaf => fLeaf | .Dig => fDig | .RT => fRT | .Plain => fPlain | .RI => fRI | .RW => fRW | .RB => fRB | .RG => fRG | .RE => fRE | .RF => fRF | .RS => fRS | .RN => fRN | .RQ => fRQ | .Reader => C) (fun n => match n with | .Pen => _ | .Draw => _ | .Pick => _ | .Strg => _ | .Sing => _ | .Wide => _ | .Wrap => _ | .Writ => _ | .WT => _ | .Leaf => _ | .Dig => _ | .RT => _ | .Plain => _ | .RI => _ | .RW => _ | .RB => _ | .RG => _ | .RE => _ | .RF => _ | .RS => _ | .RN => _ | .RQ => _ | .Reader => PySem.W.fnOf "law" "law" (defArgs sLaw) (defBody sLaw) (defScope sLaw) .none kVLaw dcLaw pmLaw anLaw cdLaw ctLaw) := {
    n_len := PySem.W.mg_none_of X G z_len
    n_int := PySem.W.mg_none_of X G z_int
    n_abs := PySem.W.mg_none_of X G z_abs
    n_list := PySem.W.mg_none_of X G z_list
    n_str := PySem.W.mg_none_of X G z_str
    n_tuple := PySem.W.mg_none_of X G z_tuple
    n_bool := PySem.W.mg_none_of X G z_bool
    n_range := PySem.W.mg_none_of X G z_range
    n_min := PySem.W.mg_none_of X G z_min
    n_repr := PySem.W.mg_none_of X G z_repr
    n_divmod := PySem.W.mg_none_of X G z_divmod
    n_reversed := PySem.W.mg_none_of X G z_reversed
    n_isinstance := PySem.W.mg_none_of X G z_isinstance
    gMOST_PARTS := ⟨_, PySem.W.mg_of X G gPARTS⟩
    gMOST_DEEP := ⟨_, PySem.W.mg_of X G gDEEP⟩
    gMOST_DIGITS := ⟨_, PySem.W.mg_of X G gDIGITS⟩
    gPIECE_DIGITS := ⟨_, PySem.W.mg_of X G gPIECED⟩
    gPIECE := ⟨_, PySem.W.mg_of X G gPIECE⟩
    Pen := ⟨FPen, PySem.W.mg_of X G aPen, bPen⟩
    Draw := ⟨FDraw, PySem.W.mg_of X G aDraw, bDraw⟩
    Pick := ⟨FPick, PySem.W.mg_of X G aPick, bPick⟩
    Strg := ⟨FStrg, PySem.W.mg_of X G aStrg, bStrg⟩
    Sing := ⟨FSing, PySem.W.mg_of X G aSing, bSing⟩
    Wide := ⟨FWide, PySem.W.mg_of X G aWide, bWide⟩
    Wrap := ⟨FWrap, PySem.W.mg_of X G aWrap, bWrap⟩
    Writ := ⟨FWrit, PySem.W.mg_of X G aWrit, bWrit⟩
    WT := ⟨FWT, PySem.W.mg_of X G aWT, bWT⟩
    Leaf := ⟨FLeaf, PySem.W.mg_of X G aLeaf, bLeaf⟩
    Dig := ⟨FDig, PySem.W.mg_of X G aDig, bDig⟩
    RT := ⟨FRT, PySem.W.mg_of X G aRT, bRT⟩
    Plain := ⟨FPlain, PySem.W.mg_of X G aPlain, bPlain⟩
    RI := ⟨FRI, bRI⟩
    RW := ⟨FRW, ⟨aRW, iRW, kRW⟩, bRW⟩
    RB := ⟨FRB, ⟨aRB, iRB, kRB⟩, bRB⟩
    RG := ⟨FRG, ⟨aRG, iRG, kRG⟩, bRG⟩
    RE := ⟨FRE, ⟨aRE, iRE, kRE⟩, bRE⟩
    RF := ⟨FRF, ⟨aRF, iRF, kRF⟩, bRF⟩
    RS := ⟨FRS, ⟨aRS, iRS, kRS⟩, bRS⟩
    RN := ⟨FRN, ⟨aRN, iRN, kRN⟩, bRN⟩
    RQ := ⟨FRQ, ⟨aRQ, iRQ, kRQ⟩, bRQ⟩
    cl := ⟨pg, hd, po, sa⟩
    mkR := ⟨mk, aRI, iRI, kc⟩
    mgReader := PySem.W.mg_of X G aC
    aText := n_text
    aMost_parts := n_most_parts
    aMost_deep := n_most_deep
    aAt := n_at
    aMany := n_many
    aUnclosed := n_unclosed
    aResult := n_result
    }
  exact ⟨_, fun s v => .of_eq rfl, fun base _ _ => run_law T FLaw⟩
theorem walk_g {l : PySem.W.OpenLaw} {q : Program} {loose : List Str} {XP : (Str → Option Value) → Heap → Prop} {YP : World → Heap → Prop} {d : DefRec} {K : Params → PySem.W.Frag} (most : l.most = some 63) (plain : d.params.defaults = [])
    (hY : ∀ (w : World) (h : Heap), YP w h → (K w.params).In h)
    (F : ∀ (w : World) (mg : Str → Option Value) (fa : Addr) (h : Heap), (K w.params).In h → h.Ns mainGlobals mg → mg d.name = some (.ref fa) →
      ∃ fd : FuncData, (∀ (s : Shared) (u : Value), BindsTo s fd ⟨[u], []⟩ [("_law_script", u)]) ∧ ∀ base : Heap, (K w.params).In base → base.Ns mainGlobals mg → RunG l.prog w (K w.params) mg base 31 fa fd ["_law_script"] (spLaw (K w.params))) :
    PySem.W.WalkO q loose XP YP l.row.toRowW d [] (fun f vs => PySem.call f vs) := by
  refine Att.attach_call most plain ?_
  intro w s₀ s₁ mg mb fa o pm cd doc a vs ns G Y ho hd hcd hmg hobj hia hle hge
  obtain ⟨fd, bind, run⟩ := F w mg fa s₁.heap (hY w _ Y) G.T.g hmg
  exact head_g (hY w _ Y) G.T.g G.T.b G.T.builtins G.T.nolimit hge hobj hia (Nat.le_trans hle (by decide)) ⟨rfl, by decide, by decide⟩ run bind fun H _ sq => ⟨a, ns, rfl, sq, hle, fun _ => rfl⟩
end TK
open PySem PySem.W PyProof.Rows in
set_option maxRecDepth 100000 in
set_option maxHeartbeats 0 in
theorem PySem.Challenge.cw_deedstore_k00_trees_written_and_read_holds : PySem.Challenge.rw_deedstore_k00_trees_written_and_read.Holds := by
  w_on; o_law; k_head; (case hw => w_witness2)
  k_fill
  refine TK.walk_g (l := PySem.Challenge.rw_deedstore_k00_trees_written_and_read) rfl rfl (fun w h Y => PySem.W.kIn_of Y) ?F
  case F =>
    intro w mg fa h KX G hmg
    refine' TK.all_mk KX G hmg ?aC ?aPen ?lPen ?cPen ?kPen ?aDraw ?lDraw ?cDraw ?kDraw ?aPick ?lPick ?cPick ?kPick ?aStrg ?lStrg ?cStrg ?kStrg ?aSing ?lSing ?cSing ?kSing ?aWide ?lWide ?cWide ?kWide ?aWrap ?lWrap ?cWrap ?kWrap ?aWrit ?lWrit ?cWrit ?kWrit ?aWT ?lWT ?cWT ?kWT ?aLeaf ?lLeaf ?cLeaf ?kLeaf ?aDig ?lDig ?cDig ?kDig ?aRT ?lRT ?cRT ?kRT ?aPlain ?lPlain ?cPlain ?kPlain ?aRI ?iRI ?lRI ?cRI ?kRI ?aRW ?iRW ?lRW ?cRW ?kRW ?aRB ?iRB ?lRB ?cRB ?kRB ?aRG ?iRG ?lRG ?cRG ?kRG ?aRE ?iRE ?lRE ?cRE ?kRE ?aRF ?iRF ?lRF ?cRF ?kRF ?aRS ?iRS ?lRS ?cRS ?kRS ?aRN ?iRN ?lRN ?cRN ?kRN ?aRQ ?iRQ ?lRQ ?cRQ ?kRQ ?aLaw ?lLaw ?cLaw ?kLaw ?pg ?hd ?po ?sa ?mk ?kc ?n_text ?n_most_parts ?n_most_deep ?n_at ?n_many ?n_unclosed ?n_result ?z_len ?z_int ?z_abs ?z_list ?z_str ?z_tuple ?z_bool ?z_range ?z_min ?z_repr ?z_divmod ?z_reversed ?z_isinstance ?gPARTS ?ePARTS ?gDEEP ?eDEEP ?gDIGITS ?eDIGITS ?gPIECED ?ePIECED ?gPIECE ?ePIECE
    (case aC => k_is)
    (case aPen => k_is)
    (case lPen => k_is)
    (case cPen => k_is)
    (case kPen => k_is)
    (case aDraw => k_is)
    (case lDraw => k_is)
    (case cDraw => k_is)
    (case kDraw => k_is)
    (case aPick => k_is)
    (case lPick => k_is)
    (case cPick => k_is)
    (case kPick => k_is)
    (case aStrg => k_is)
    (case lStrg => k_is)
    (case cStrg => k_is)
    (case kStrg => k_is)
    (case aSing => k_is)
    (case lSing => k_is)
    (case cSing => k_is)
    (case kSing => k_is)
    (case aWide => k_is)
    (case lWide => k_is)
    (case cWide => k_is)
    (case kWide => k_is)
    (case aWrap => k_is)
    (case lWrap => k_is)
    (case cWrap => k_is)
    (case kWrap => k_is)
    (case aWrit => k_is)
    (case lWrit => k_is)
    (case cWrit => k_is)
    (case kWrit => k_is)
    (case aWT => k_is)
    (case lWT => k_is)
    (case cWT => k_is)
    (case kWT => k_is)
    (case aLeaf => k_is)
    (case lLeaf => k_is)
    (case cLeaf => k_is)
    (case kLeaf => k_is)
    (case aDig => k_is)
    (case lDig => k_is)
    (case cDig => k_is)
    (case kDig => k_is)
    (case aRT => k_is)
    (case lRT => k_is)
    (case cRT => k_is)
    (case kRT => k_is)
    (case aPlain => k_is)
    (case lPlain => k_is)
    (case cPlain => k_is)
    (case kPlain => k_is)
    (case aRI => k_is)
    (case iRI => k_is)
    (case lRI => k_is)
    (case cRI => k_is)
    (case kRI => k_is)
    (case aRW => k_is)
    (case iRW => k_is)
    (case lRW => k_is)
    (case cRW => k_is)
    (case kRW => k_is)
    (case aRB => k_is)
    (case iRB => k_is)
    (case lRB => k_is)
    (case cRB => k_is)
    (case kRB => k_is)
    (case aRG => k_is)
    (case iRG => k_is)
    (case lRG => k_is)
    (case cRG => k_is)
    (case kRG => k_is)
    (case aRE => k_is)
    (case iRE => k_is)
    (case lRE => k_is)
    (case cRE => k_is)
    (case kRE => k_is)
    (case aRF => k_is)
    (case iRF => k_is)
    (case lRF => k_is)
    (case cRF => k_is)
    (case kRF => k_is)
    (case aRS => k_is)
    (case iRS => k_is)
    (case lRS => k_is)
    (case cRS => k_is)
    (case kRS => k_is)
    (case aRN => k_is)
    (case iRN => k_is)
    (case lRN => k_is)
    (case cRN => k_is)
    (case kRN => k_is)
    (case aRQ => k_is)
    (case iRQ => k_is)
    (case lRQ => k_is)
    (case cRQ => k_is)
    (case kRQ => k_is)
    (case aLaw => k_is)
    (case lLaw => k_is)
    (case cLaw => k_is)
    (case kLaw => k_is)
    (case pg => k_is)
    (case hd => k_is)
    (case po => k_is)
    (case sa => k_is)
    (case mk => k_is)
    (case kc => k_is)
    (case n_text => k_is)
    (case n_most_parts => k_is)
    (case n_most_deep => k_is)
    (case n_at => k_is)
    (case n_many => k_is)
    (case n_unclosed => k_is)
    (case n_result => k_is)
    (case z_len => k_is)
    (case z_int => k_is)
    (case z_abs => k_is)
    (case z_list => k_is)
    (case z_str => k_is)
    (case z_tuple => k_is)
    (case z_bool => k_is)
    (case z_range => k_is)
    (case z_min => k_is)
    (case z_repr => k_is)
    (case z_divmod => k_is)
    (case z_reversed => k_is)
    (case z_isinstance => k_is)
    (case gPARTS => k_is)
    (case gDEEP => k_is)
    (case gDIGITS => k_is)
    (case gPIECED => k_is)
    (case gPIECE => k_is)
    (case ePARTS => rfl)
    (case eDEEP => rfl)
    (case eDIGITS => rfl)
    (case ePIECED => rfl)
    (case ePIECE => rfl)
