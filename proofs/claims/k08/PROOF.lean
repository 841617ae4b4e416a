import PyProof.Rows.All
import Wide.All
import OpenK.AllK
import Wide.FinOn
import HandS.ForMost
import HandS.Exc
import HandS.TryOnly
import HandS.AnyAll
import HandS.IsInst
import HandS.Defaults
import HandS.MakeKw
import HandS.Zip
import HandS.Strs
import HandS.Wide
import HandS.EndTab
import HandS.Codes
import HandS.Style
import HandS.Gcd
import HandS.FStr
import PySem.Challenge.RW_howfar_k08_whole_shown
set_option Elab.async false
set_option maxRecDepth 100000
set_option maxHeartbeats 4000000
namespace Hf
open PySem L2 PySem.Spec PyProof.Rows
/-! ## heaps: all that is tracked stays, tables may grow -/
def NTb (o : HO) : Prop := ∀ q, o ≠ .tbl q
structure Sm (H H' : Hp) : Prop where
  keep : ∀ b o, H b = some o → NTb o → H' b = some o
  tab : ∀ b q, H b = some (.tbl q) → ∃ q', H' b = some (.tbl q') ∧ (TriplesOk q.toList → TriplesOk q'.toList)
theorem Sm.refl (H : Hp) : Sm H H := ⟨fun _ _ h _ => h, fun _ q h => ⟨q, h, fun z => z⟩⟩
theorem Sm.trans {H H1 H2 : Hp} (a : Sm H H1) (b : Sm H1 H2) : Sm H H2 :=
  ⟨fun c o h n => b.keep c o (a.keep c o h n) n, fun c q h => by
    obtain ⟨q1, h1, t1⟩ := a.tab c q h
    obtain ⟨q2, h2, t2⟩ := b.tab c q1 h1
    exact ⟨q2, h2, fun z => t2 (t1 z)⟩⟩
theorem Sm.free {H H' : Hp} (e : Sm H H') {l : Addr} (h : H' l = Option.none) : H l = Option.none := by
  cases q : H l with
  | none => rfl
  | some o =>
    by_cases hn : NTb o
    · rw [e.keep l o q hn] at h
      cases h
    · cases o with
      | tbl ps =>
        obtain ⟨q', h', _⟩ := e.tab l ps q
        rw [h'] at h
        cases h
      | _ => exact absurd (fun _ z => by cases z) hn
theorem ntb_lst {xs : List V} : NTb (.lst xs) := fun _ z => by cases z
theorem ntb_tup {xs : List V} : NTb (.tup xs) := fun _ z => by cases z
theorem ntb_ins {C dx : Addr} {fs : List (Str × V)} : NTb (.ins C dx fs) := fun _ z => by cases z
theorem ntb_frz {o : Obj} {u : HO} : NTb (.frz o u) := fun _ z => by cases z
theorem ntb_dK {k : List (Key × V)} : NTb (.dK k) := fun _ z => by cases z
theorem Sm.lst {H H' : Hp} (e : Sm H H') {a : Addr} {xs : List V} (h : H a = some (.lst xs)) : H' a = some (.lst xs) := e.keep _ _ h ntb_lst
theorem Sm.tup {H H' : Hp} (e : Sm H H') {a : Addr} {xs : List V} (h : H a = some (.tup xs)) : H' a = some (.tup xs) := e.keep _ _ h ntb_tup
theorem Sm.ins {H H' : Hp} (e : Sm H H') {a C dx : Addr} {fs : List (Str × V)} (h : H a = some (.ins C dx fs)) : H' a = some (.ins C dx fs) := e.keep _ _ h ntb_ins
theorem Sm.dK {H H' : Hp} (e : Sm H H') {a : Addr} {k : List (Key × V)} (h : H a = some (.dK k)) : H' a = some (.dK k) := e.keep _ _ h ntb_dK
theorem Sm.new {H : Hp} {p : Addr} {o : HO} (h : H p = Option.none) : Sm H (upd H p o) :=
  ⟨fun b u q _ => by rw [upd_ne (ne_of_none q h)]; exact q, fun b q z => ⟨q, by rw [upd_ne (ne_of_none z h)]; exact z, fun z => z⟩⟩
/-- what was new since H is written -/
theorem Sm.put {H H' : Hp} (e : Sm H H') {p : Addr} {o : HO} (h : H p = Option.none) : Sm H (upd H' p o) :=
  ⟨fun b u q n => by rw [upd_ne (ne_of_none q h)]; exact e.keep b u q n, fun b q z => by
    obtain ⟨q', h', t⟩ := e.tab b q z
    exact ⟨q', by rw [upd_ne (ne_of_none z h)]; exact h', t⟩⟩
theorem Sm.seqL {K : PySem.W.Frag} {H H' : Hp} {a : Addr} {xs : List V} (e : Sm H H') (h : SqL K H a xs) : SqL K H' a xs := by
  rcases h with (h | ⟨o, h⟩) | h
  · exact .inl (.inl (e.lst h))
  · exact .inl (.inr ⟨o, e.keep _ _ h ntb_frz⟩)
  · exact .inr h
abbrev Tab (H : Hp) (P : Addr) : Prop := GxR.TabG H P
theorem Sm.tabG {H H' : Hp} (e : Sm H H') {P : Addr} (h : Tab H P) : Tab H' P := by
  obtain ⟨ps, h1, h2⟩ := h
  obtain ⟨q, h3, h4⟩ := e.tab P ps h1
  exact ⟨q, h3, h4 h2⟩
theorem Sm.tabbed {H H' : Hp} {P : Addr} (h : Tab H P) (t : GxR.Tabbed P H H') : Sm H H' := by
  obtain ⟨ps, h1, _⟩ := h
  obtain ⟨⟨qs, h3, h4⟩, h5⟩ := t
  refine ⟨fun b o e n => ?_, fun b q e => ?_⟩
  · by_cases hb : b = P
    · rw [hb, h1] at e
      cases e
      exact absurd rfl (n ps)
    · rw [h5 b hb]
      exact e
  · by_cases hb : b = P
    · rw [hb]
      exact ⟨qs, h3, fun _ => h4⟩
    · exact ⟨q, by rw [h5 b hb]; exact e, fun z => z⟩
/-! ## plans -/
mutual
inductive Tr where
  | leaf (nm : Str) (st : Option Int)
  | node (b : Bool) (nm : Str) (ps : Ps)
inductive Ps where
  | nil
  | cons (w : Int) (t : Tr) (r : Ps)
end
def Ps.toL : Ps → List (Int × Tr)
  | .nil => []
  | .cons w t r => (w, t) :: r.toL
def Ps.ofL : List (Int × Tr) → Ps
  | [] => .nil
  | (w, t) :: r => .cons w t (Ps.ofL r)
theorem Ps.toL_ofL : ∀ l : List (Int × Tr), (Ps.ofL l).toL = l
  | [] => rfl
  | (_, _) :: r => by show _ :: (Ps.ofL r).toL = _; rw [Ps.toL_ofL r]
theorem Ps.ofL_toL : ∀ l : Ps, Ps.ofL l.toL = l
  | .nil => rfl
  | .cons w t r => by show Ps.cons w t (Ps.ofL r.toL) = _; rw [Ps.ofL_toL r]
def Tr.nm : Tr → Str
  | .leaf n _ => n
  | .node _ n _ => n
mutual
def Tr.names : Tr → List Str
  | .leaf n _ => [n]
  | .node _ n ps => n :: ps.names
def Ps.names : Ps → List Str
  | .nil => []
  | .cons _ t r => t.names ++ r.names
end
mutual
def Tr.lev : Tr → Nat
  | .leaf _ _ => 1
  | .node _ _ ps => ps.lev + 1
def Ps.lev : Ps → Nat
  | .nil => 0
  | .cons _ t r => max t.lev r.lev
end
theorem Ps.names_toL : ∀ p : Ps, p.names = p.toL.flatMap (fun x => x.2.names)
  | .nil => rfl
  | .cons w t r => by
    show t.names ++ r.names = ((w, t) :: r.toL).flatMap _
    rw [List.flatMap_cons, Ps.names_toL r]
theorem Ps.lev_toL : ∀ p : Ps, p.lev = p.toL.foldl (fun d x => max d x.2.lev) 0 := by
  have key : ∀ (p : Ps) (d : Nat), max d p.lev = p.toL.foldl (fun d x => max d x.2.lev) d := by
    intro p
    induction p using Ps.rec (motive_1 := fun _ => True) with
    | leaf => trivial
    | node => trivial
    | nil => intro d; show max d 0 = d; omega
    | cons w t r _ ih =>
      intro d
      show max d (max t.lev r.lev) = r.toL.foldl _ (max d t.lev)
      rw [← ih]; omega
  intro p
  rw [← key p 0]; omega
theorem Ps.lev_mem : ∀ {p : Ps} {w : Int} {t : Tr}, (w, t) ∈ p.toL → t.lev ≤ p.lev
  | .nil, _, _, h => by cases h
  | .cons w' t' r, w, t, h => by
    show t.lev ≤ max t'.lev r.lev
    rcases List.mem_cons.mp h with e | h
    · cases e; omega
    · have := Ps.lev_mem (p := r) h
      omega
/-! ## names, steps, weights -/
def nameOk (z : Str) : Bool := decide (1 ≤ z.length) && decide (z.length ≤ 8) && z.cps.toList.all fun c => decide (97 ≤ c) && decide (c ≤ 122)
def numOk (lo hi i : Int) : Bool := decide (lo ≤ i) && decide (i ≤ hi)
def stOk : Option Int → Bool
  | none => true
  | some i => numOk 1 1000 i
def stV : Option Int → V
  | none => .non
  | some i => .int i
def kindS (b : Bool) : Str := if b = true then "row" else "bundle"
/-- as many, as deep, as differently named as a plan's works are -/
def planOk (t : Tr) : Bool := decide (t.names.length ≤ 20) && decide t.names.Nodup && decide (t.lev ≤ 5)
mutual
def Tr.Ok : Tr → Prop
  | .leaf n st => nameOk n = true ∧ stOk st = true
  | .node b n ps => nameOk n = true ∧ ps.toL ≠ [] ∧ ps.toL.length ≤ 6 ∧ ps.Ok ∧ planOk (.node b n ps) = true
def Ps.Ok : Ps → Prop
  | .nil => True
  | .cons w t r => numOk 1 100 w = true ∧ t.Ok ∧ r.Ok
end
theorem Ps.Ok.mem : ∀ {p : Ps} {w : Int} {t : Tr}, p.Ok → (w, t) ∈ p.toL → numOk 1 100 w = true ∧ t.Ok
  | .nil, _, _, _, h => by cases h
  | .cons w' t' r, w, t, o, h => by
    obtain ⟨o1, o2, o3⟩ := o
    rcases List.mem_cons.mp h with e | h
    · cases e; exact ⟨o1, o2⟩
    · exact Ps.Ok.mem o3 h
/-! ## plans as the program keeps them: tuples -/
mutual
def TrAt (H : Hp) : Tr → V → Prop
  | .leaf n st, v => ∃ a e, v = .ref a ∧ H a = some (.tup [.str "leaf", .str n, stV st, .ref e]) ∧ H e = some (.tup [])
  | .node b n ps, v => ∃ a e xs, v = .ref a ∧ H a = some (.tup [.str (kindS b), .str n, .non, .ref e]) ∧ H e = some (.tup xs) ∧ PsAt H ps xs
def PsAt (H : Hp) : Ps → List V → Prop
  | .nil, xs => xs = []
  | .cons w t r, xs => ∃ p v ys, xs = .ref p :: ys ∧ H p = some (.tup [.int w, v]) ∧ TrAt H t v ∧ PsAt H r ys
end
mutual
theorem TrAt.mono {H H' : Hp} (e : Sm H H') : ∀ {t : Tr} {v : V}, TrAt H t v → TrAt H' t v
  | .leaf n st, v, h => by
    obtain ⟨a, b, h1, h2, h3⟩ := h
    exact ⟨a, b, h1, e.tup h2, e.tup h3⟩
  | .node b n ps, v, h => by
    obtain ⟨a, c, xs, h1, h2, h3, h4⟩ := h
    exact ⟨a, c, xs, h1, e.tup h2, e.tup h3, PsAt.mono e h4⟩
theorem PsAt.mono {H H' : Hp} (e : Sm H H') : ∀ {p : Ps} {xs : List V}, PsAt H p xs → PsAt H' p xs
  | .nil, xs, h => h
  | .cons w t r, xs, h => by
    obtain ⟨p, v, ys, h1, h2, h3, h4⟩ := h
    exact ⟨p, v, ys, h1, e.tup h2, TrAt.mono e h3, PsAt.mono e h4⟩
end
theorem PsAt.length {H : Hp} : ∀ {p : Ps} {xs : List V}, PsAt H p xs → xs.length = p.toL.length
  | .nil, xs, h => by cases h; rfl
  | .cons w t r, xs, h => by
    obtain ⟨p, v, ys, rfl, h2, h3, h4⟩ := h
    show ys.length + 1 = r.toL.length + 1
    rw [PsAt.length h4]
theorem PsAt.get {H : Hp} : ∀ {p : Ps} {xs : List V} {i : Nat} {x : V}, PsAt H p xs → xs[i]? = some x → ∃ (w : Int) (t : Tr) (q : Addr) (v : V), p.toL[i]? = some (w, t) ∧ x = V.ref q ∧ H q = some (.tup [.int w, v]) ∧ TrAt H t v
  | .nil, xs, i, x, h, e => by cases h; simp at e
  | .cons w t r, xs, i, x, h, e => by
    obtain ⟨p, v, ys, rfl, h2, h3, h4⟩ := h
    cases i with
    | zero =>
      simp at e
      exact ⟨w, t, p, v, rfl, e.symm, h2, h3⟩
    | succ i =>
      have e' : ys[i]? = some x := by simpa using e
      obtain ⟨w', t', q, v', g1, g2, g3, g4⟩ := PsAt.get h4 e'
      exact ⟨w', t', q, v', by show ((w, t) :: r.toL)[i + 1]? = _; rw [List.getElem?_cons_succ]; exact g1, g2, g3, g4⟩
theorem PsAt.of {H : Hp} : ∀ {l : List (Int × Tr)} {xs : List V}, xs.length = l.length → (∀ (i : Nat) (w : Int) (t : Tr), l[i]? = some (w, t) → ∃ (q : Addr) (v : V), xs[i]? = some (V.ref q) ∧ H q = some (.tup [.int w, v]) ∧ TrAt H t v) → PsAt H (Ps.ofL l) xs
  | [], [], _, _ => rfl
  | [], _ :: _, e, _ => by simp at e
  | _ :: _, [], e, _ => by simp at e
  | (w, t) :: l, x :: xs, e, h => by
    obtain ⟨q, v, h1, h2, h3⟩ := h 0 w t rfl
    simp at h1
    subst h1
    refine ⟨q, v, xs, rfl, h2, h3, PsAt.of (by simpa using e) fun i w' t' z => ?_⟩
    obtain ⟨q', v', g1, g2, g3⟩ := h (i + 1) w' t' (by simpa using z)
    exact ⟨q', v', by simpa using g1, g2, g3⟩
end Hf
set_option Elab.async false
set_option maxRecDepth 100000
set_option maxHeartbeats 4000000
namespace Hf
open PySem L2 PySem.Spec PyProof.Rows
theorem b_int : bootBuiltins "int" = some (.type "int") := by decide +kernel
theorem b_bool : bootBuiltins "bool" = some (.type "bool") := by decide +kernel
theorem b_str : bootBuiltins "str" = some (.type "str") := by decide +kernel
theorem b_tuple : bootBuiltins "tuple" = some (.type "tuple") := by decide +kernel
theorem b_list : bootBuiltins "list" = some (.type "list") := by decide +kernel
theorem b_dict : bootBuiltins "dict" = some (.type "dict") := by decide +kernel
theorem b_isi : bootBuiltins "isinstance" = some (.builtin "isinstance") := by decide +kernel
theorem b_sum : bootBuiltins "sum" = some (.builtin "sum") := by decide +kernel
theorem b_max : bootBuiltins "max" = some (.builtin "max") := by decide +kernel
theorem b_min : bootBuiltins "min" = some (.builtin "min") := by decide +kernel
section
variable {K : PySem.W.Frag}
theorem kit_int_int : PySem.W.kitOne K (.type "int") (.type "int") = some true := kit_ty (by decide +kernel)
theorem kit_int_bool : PySem.W.kitOne K (.type "int") (.type "bool") = some false := kit_ty (by decide +kernel)
theorem kit_tup_tup : PySem.W.kitOne K (.type "tuple") (.type "tuple") = some true := kit_ty (by decide +kernel)
theorem kit_str_str : PySem.W.kitOne K (.type "str") (.type "str") = some true := kit_ty (by decide +kernel)
theorem kit_list_list : PySem.W.kitOne K (.type "list") (.type "list") = some true := kit_ty (by decide +kernel)
theorem kit_dict_dict : PySem.W.kitOne K (.type "dict") (.type "dict") = some true := kit_ty (by decide +kernel)
theorem Sm.seqT {H H' : Hp} {a : Addr} {xs : List V} (e : Sm H H') (h : SqT K H a xs) : SqT K H' a xs := by
  rcases h with (h | ⟨o, h⟩) | h
  · exact .inl (.inl (e.tup h))
  · exact .inl (.inr ⟨o, e.keep _ _ h ntb_frz⟩)
  · exact .inr h
theorem hu64 {A : Around} {k : Nat} (hr : Room k A) : A.units + 64 < cLine := by have := hr.un; omega
theorem intsDp {H : Hp} : ∀ ns : List Int, DpAll K H (ns.map V.int) (ns.map PyData.int)
  | [] => .nil
  | n :: r => .cons (.int n) (intsDp r)
end
theorem ints_lay : ∀ ns : List Int, PyData.canLayAll0 (ns.map PyData.int) = true
  | [] => rfl
  | _ :: r => by show (true && PyData.canLayAll0 (r.map PyData.int)) = true; rw [ints_lay r]; rfl
theorem ints_dep : ∀ ns : List Int, PyData.depthAll (ns.map PyData.int) = 0
  | [] => rfl
  | _ :: r => by show max 0 (PyData.depthAll (r.map PyData.int)) = 0; rw [ints_dep r]; rfl
theorem ints_shaped (ns : List Int) : SeqAt.shaped (.list (ns.map PyData.int)) = true := by
  unfold SeqAt.shaped
  rw [show (PyData.list (ns.map PyData.int)).canLay0 = PyData.canLayAll0 (ns.map PyData.int) from rfl, ints_lay, show (PyData.list (ns.map PyData.int)).depth = PyData.depthAll (ns.map PyData.int) + 1 from rfl, ints_dep]
  rfl
theorem nil_shaped : SeqAt.shaped (.list []) = true := by decide +kernel
/-- the built-in names are the built-ins' -/
structure Bi (mg : Str → Option Value) : Prop where
  isinstance : mg "isinstance" = none
  int : mg "int" = none
  bool : mg "bool" = none
  str : mg "str" = none
  list : mg "list" = none
  tuple : mg "tuple" = none
  dict : mg "dict" = none
  len : mg "len" = none
  all : mg "all" = none
  any : mg "any" = none
  set : mg "set" = none
  max : mg "max" = none
  min : mg "min" = none
  range : mg "range" = none
  zip : mg "zip" = none
  sum : mg "sum" = none
  sorted : mg "sorted" = none
  abs : mg "abs" = none
  enumerate : mg "enumerate" = none
/-- a def of the module's own -/
structure Gf (K : PySem.W.Frag) (mg : Str → Option Value) (x : Str) (st : Stmt) (ps : List Str) (f : Addr) (fd : FuncData) : Prop where
  F : Fun K x x st f fd
  m : mg x = some (.ref f)
  b : Binds K fd ps []
theorem Gf.kp {K : PySem.W.Frag} {mg : Str → Option Value} {x : Str} {st : Stmt} {ps : List Str} {f : Addr} {fd : FuncData} (D : Gf K mg x st ps f fd) : PySem.W.keepIn K (.ref f) = true := D.F.kp
/-- one with defaults -/
structure Gd (K : PySem.W.Frag) (mg : Str → Option Value) (x : Str) (st : Stmt) (dvs : List V) (f : Addr) (fd : FuncData) : Prop where
  F : FunD K x x (defArgs st) (defBody st) (defScope st) dvs [] f fd
  m : mg x = some (.ref f)
theorem Gd.kp {K : PySem.W.Frag} {mg : Str → Option Value} {x : Str} {st : Stmt} {dvs : List V} {f : Addr} {fd : FuncData} (D : Gd K mg x st dvs f fd) : PySem.W.keepIn K (.ref f) = true := D.F.kp
/-- a def whose code object stands at c, its table at T -/
structure Gt (K : PySem.W.Frag) (mg : Str → Option Value) (base : Heap) (x : Str) (st : Stmt) (ps : List Str) (f : Addr) (fd : FuncData) (T : Addr) : Prop where
  g : Gf K mg x st ps f fd
  tab : ∃ c, fd.code = .ref c ∧ GxR.TabB base mg c T
theorem Gt.kp {K : PySem.W.Frag} {mg : Str → Option Value} {base : Heap} {x : Str} {st : Stmt} {ps : List Str} {f : Addr} {fd : FuncData} {T : Addr} (D : Gt K mg base x st ps f fd T) : PySem.W.keepIn K (.ref f) = true := D.g.F.kp
theorem small1000' {n : Nat} (h : n ≤ 1000) : n ≤ sizeLine := Nat.le_trans h (by decide)
/-! ## a sign, so many times -/
def repS (c n : Nat) : Str := ⟨(List.replicate n c).toArray⟩
theorem rep_fold (c : Nat) : ∀ (n : Nat) (a : Array Nat), (List.replicate n (#[c] : Array Nat)).foldl (· ++ ·) a = a ++ (List.replicate n c).toArray
  | 0, a => by simp
  | n + 1, a => by
    rw [List.replicate_succ, List.foldl_cons, rep_fold c n, List.replicate_succ]
    apply Array.ext'
    simp
theorem repS_len (c n : Nat) : (repS c n).length = n := by
  show (List.replicate n c).toArray.size = n
  simp
theorem op_mulS {X : Cx} : OpR X (binaryOp .Mult) (fun x y H Q => ∃ (c : Nat) (n : Int), x = .str ⟨#[c]⟩ ∧ y = .int n ∧ 0 ≤ n ∧ n ≤ 1000 ∧ Q (.str (repS c n.toNat)) H) := by
  intro pins s σ H x y v u Q I rx ry h
  obtain ⟨c, n, rfl, rfl, h0, h1, q⟩ := h
  obtain ⟨t, rfl⟩ := rx
  obtain ⟨t', rfl⟩ := ry
  have l1 : (⟨#[c]⟩ : Str).length = 1 := rfl
  refine PySem.P.mul_str ?_ (fun a _ => ?_) (fun a _ => ?_) ?_
  · rw [decide_eq_false (by omega), decide_eq_false (by omega)]
    rfl
  · rw [l1]
    have : (1 : Int) ≤ (2 ^ 63 - 1) / n := by
      rw [Int.le_ediv_iff_mul_le (by omega)]
      omega
    omega
  · rw [l1]
    unfold PySem.Builtin.Str.tooLong
    have : 1 * n.toNat ≤ sizeLine := Nat.le_trans (show 1 * n.toNat ≤ 1000 by omega) (by decide)
    simp only [decide_eq_false_iff_not]
    omega
  · by_cases c1 : n < 1
    · rw [if_pos c1]
      have e : repS c n.toNat = Str.empty := by
        have : n.toNat = 0 := by omega
        rw [this]
        rfl
      rw [e] at q
      exact ⟨by decide, .str Str.empty, H, I.tok _, ⟨_, rfl⟩, q⟩
    · rw [if_neg c1]
      by_cases c2 : (n == 1 || (⟨#[c]⟩ : Str).length == 0) = true
      · rw [if_pos c2]
        rw [l1] at c2
        have n1 : n = 1 := by simpa using c2
        have e : repS c n.toNat = ⟨#[c]⟩ := by
          rw [n1]
          rfl
        rw [e] at q
        exact ⟨.str _, H, I, ⟨_, rfl⟩, q⟩
      · rw [if_neg c2]
        have e : (⟨(List.replicate n.toNat (⟨#[c]⟩ : Str).cps).foldl (· ++ ·) #[]⟩ : Str) = repS c n.toNat := by
          show (⟨(List.replicate n.toNat (#[c] : Array Nat)).foldl (· ++ ·) #[]⟩ : Str) = _
          rw [rep_fold]
          unfold repS
          simp
        rw [e]
        refine ⟨?_, .str _, H, I.tok _, ⟨_, rfl⟩, q⟩
        rw [repS_len]
        exact small1000' (by omega)
end Hf
set_option Elab.async false
set_option maxRecDepth 100000
set_option maxHeartbeats 4000000
namespace Hf
open PySem L2
def top (i : Nat) : Stmt := PySem.Challenge.pw_howfar_k08_whole_shown.main.body.getD i (.Pass ⟨0, 0, 0, 0⟩)
abbrev sIsNumber : Stmt := top 6
theorem scIsNumber : FnScope ["value", "least", "most"] ["value", "least", "most"] (defScope sIsNumber) := ⟨rfl, rfl, rfl, by decide +kernel, rfl, by decide +kernel, by decide +kernel⟩
abbrev sIsShare : Stmt := top 9
theorem scIsShare : FnScope ["value", "over", "under"] ["value"] (defScope sIsShare) := ⟨rfl, rfl, rfl, by decide +kernel, rfl, by decide +kernel, by decide +kernel⟩
abbrev sIsLess : Stmt := top 10
theorem scIsLess : FnScope ["one", "other"] ["one", "other"] (defScope sIsLess) := ⟨rfl, rfl, rfl, by decide +kernel, rfl, by decide +kernel, by decide +kernel⟩
abbrev sBar : Stmt := top 13
theorem scBar : FnScope ["share", "many", "full"] ["share", "many"] (defScope sBar) := ⟨rfl, rfl, rfl, by decide +kernel, rfl, by decide +kernel, by decide +kernel⟩
abbrev sPercent : Stmt := top 14
theorem scPercent : FnScope ["share"] ["share"] (defScope sPercent) := ⟨rfl, rfl, rfl, by decide +kernel, rfl, by decide +kernel, by decide +kernel⟩
abbrev sRoundedDown : Stmt := top 15
theorem scRoundedDown : FnScope ["share", "many"] ["share", "many"] (defScope sRoundedDown) := ⟨rfl, rfl, rfl, by decide +kernel, rfl, by decide +kernel, by decide +kernel⟩
abbrev sIsWithinWhole : Stmt := top 16
theorem scIsWithinWhole : FnScope ["value"] ["value"] (defScope sIsWithinWhole) := ⟨rfl, rfl, rfl, by decide +kernel, rfl, by decide +kernel, by decide +kernel⟩
abbrev sLawCellAt : Stmt := top 18
theorem scLawCellAt : FnScope ["_law_script", "_law_k"] ["_law_script", "_law_k"] (defScope sLawCellAt) := ⟨rfl, rfl, rfl, by decide +kernel, rfl, by decide +kernel, by decide +kernel⟩
abbrev sLawShare : Stmt := top 19
theorem scLawShare : FnScope ["_law_cell", "_law_bottom", "_law_top", "_law_other", "_law_part"] ["_law_cell"] (defScope sLawShare) := ⟨rfl, rfl, rfl, by decide +kernel, rfl, by decide +kernel, by decide +kernel⟩
abbrev sLawBarRight : Stmt := top 20
theorem scLawBarRight : FnScope ["_law_one_share", "_law_many", "_law_got", "_law_done"] ["_law_one_share", "_law_many", "_law_got"] (defScope sLawBarRight) := ⟨rfl, rfl, rfl, by decide +kernel, rfl, by decide +kernel, by decide +kernel⟩
abbrev sLawPercentRight : Stmt := top 21
theorem scLawPercentRight : FnScope ["_law_one_share", "_law_got", "_law_words", "_law_many"] ["_law_one_share", "_law_got"] (defScope sLawPercentRight) := ⟨rfl, rfl, rfl, by decide +kernel, rfl, by decide +kernel, by decide +kernel⟩
abbrev sLaw : Stmt := top 22
theorem scLaw : FnScope ["_law_script", "_law_shares", "_law_one_share", "_law_many", "_law_one", "_law_other", "_law_k"] ["_law_script"] (defScope sLaw) := ⟨rfl, rfl, rfl, by decide +kernel, rfl, by decide +kernel, by decide +kernel⟩
end Hf
set_option Elab.async false
set_option maxRecDepth 100000
set_option maxHeartbeats 4000000
namespace Hf
open PySem L2 PySem.Spec PyProof.Rows
abbrev NumF (K : PySem.W.Frag) (f : Addr) (fd : FuncData) : Prop := FunD K "is_number" "is_number" (defArgs sIsNumber) (defBody sIsNumber) (defScope sIsNumber) [.non] [] f fd
theorem num_b3 {K : PySem.W.Frag} {f : Addr} {fd : FuncData} (F : NumF K f fd) : Binds K fd ["value", "least", "most"] [] := by
  obtain ⟨ds, r, b⟩ := FunD.binds1 (ps := ["value", "least", "most"]) F 3 1 (by simp) rfl fun T kV doc pm an cdv ct us its hl hi => match us, hl, its, hi with
    | [_, _, _], _, [_], _ => ⟨_, rfl, rfl⟩
  cases (show Vals [] ds from r)
  exact b
theorem num_b2 {K : PySem.W.Frag} {f : Addr} {fd : FuncData} (F : NumF K f fd) : Binds K fd ["value", "least", "most"] [.none] := by
  obtain ⟨ds, r, b⟩ := FunD.binds1 (ps := ["value", "least", "most"]) F 2 0 (by simp) rfl fun T kV doc pm an cdv ct us its hl hi => match us, hl, its, hi with
    | [_, _], _, [_], _ => ⟨_, rfl, rfl⟩
  cases (show Vals [.non] ds from r) with
  | cons r1 r2 =>
    cases r2
    cases r1
    exact b
abbrev BarF (K : PySem.W.Frag) (f : Addr) (fd : FuncData) : Prop := FunD K "bar" "bar" (defArgs sBar) (defBody sBar) (defScope sBar) [.int 20] [] f fd
theorem bar_b2 {K : PySem.W.Frag} {f : Addr} {fd : FuncData} (F : BarF K f fd) : Binds K fd ["share", "many"] [] := by
  obtain ⟨ds, r, b⟩ := FunD.binds1 (ps := ["share", "many"]) F 2 1 (by simp) rfl fun T kV doc pm an cdv ct us its hl hi => match us, hl, its, hi with
    | [_, _], _, [_], _ => ⟨_, rfl, rfl⟩
  cases (show Vals [] ds from r)
  exact b
theorem bar_b1 {K : PySem.W.Frag} {f : Addr} {fd : FuncData} (F : BarF K f fd) : ∃ t, Binds K fd ["share", "many"] [.int 20 t] := by
  obtain ⟨ds, r, b⟩ := FunD.binds1 (ps := ["share", "many"]) F 1 0 (by simp) rfl fun T kV doc pm an cdv ct us its hl hi => match us, hl, its, hi with
    | [_], _, [_], _ => ⟨_, rfl, rfl⟩
  cases (show Vals [.int 20] ds from r) with
  | cons r1 r2 =>
    cases r2
    obtain ⟨t, rfl⟩ := r1
    exact ⟨t, b⟩
/-! ## promises -/
def optV : Option Int → V
  | none => .non
  | some i => .int i
def numO (lo : Int) (hi : Option Int) (i : Int) : Bool := decide (lo ≤ i) && match hi with | none => true | some h => decide (i ≤ h)
def spNumber : Sp := fun vs H Q _ => ∃ (i lo : Int) (hi : Option Int), vs = [.int i, .int lo, optV hi] ∧ Q (.bl (numO lo hi i)) H
/-- a share from 0 to the whole, of numbers below a bound -/
structure ShOk (x y : Int) : Prop where
  x0 : 0 ≤ x
  xy : x ≤ y
  y1 : 1 ≤ y
  yz : y ≤ 1000000000
  g : Nat.gcd x.natAbs y.natAbs = 1
def spIsShare : Sp := fun vs H Q _ => ∃ (a : Addr) (x y : Int), vs = [.ref a] ∧ H a = some (.tup [.int x, .int y]) ∧ ShOk x y ∧ Q (.bl true) H
def spIsLess (K : PySem.W.Frag) : Sp := fun vs H Q _ => ∃ (a b : Addr) (x y z w : Int), vs = [.ref a, .ref b] ∧ SqT K H a [.int x, .int y] ∧ SqT K H b [.int z, .int w] ∧ (-(2 ^ 64) < x ∧ x < 2 ^ 64) ∧ (-(2 ^ 64) < z ∧ z < 2 ^ 64) ∧ Q (.bl (decide (x * w < z * y))) H
def rowS (k m : Int) : Str := repS 35 k.toNat ++ repS 46 (m - k).toNat
def pctS (n : Int) : Str := (Str.empty ++ toString n) ++ (" in 100" : Str)
def spBar : Sp := fun vs H Q _ => ∃ (a : Addr) (x y m : Int), vs = [.ref a, .int m] ∧ H a = some (.tup [.int x, .int y]) ∧ ShOk x y ∧ 1 ≤ m ∧ m ≤ 100 ∧ Q (.str (rowS (x * m / y) m)) H
def spPercent : Sp := fun vs H Q _ => ∃ (a : Addr) (x y : Int), vs = [.ref a] ∧ H a = some (.tup [.int x, .int y]) ∧ ShOk x y ∧ Q (.str (pctS (x * 100 / y))) H
def spRounded : Sp := fun vs H Q _ => ∃ (a : Addr) (x y m : Int), vs = [.ref a, .int m] ∧ H a = some (.tup [.int x, .int y]) ∧ ShOk x y ∧ 0 ≤ m ∧ m ≤ 100 ∧ Q (.int (x * m / y)) H
theorem share_at {x y : Int} : atI [V.int x, V.int y] 0 = some (.int x) ∧ atI [V.int x, V.int y] 1 = some (.int y) := ⟨atI_nat (j := 0) rfl, atI_nat (j := 1) rfl⟩
theorem at0 {v w : V} : atI [v, w] 0 = some v := atI_nat (j := 0) rfl
theorem at1 {v w : V} : atI [v, w] 1 = some w := atI_nat (j := 1) rfl
theorem part_le {x y m : Int} (s : ShOk x y) (m0 : 0 ≤ m) : 0 ≤ x * m / y ∧ x * m / y ≤ m := by
  refine ⟨Int.ediv_nonneg (Int.mul_nonneg s.x0 m0) (by have := s.y1; omega), ?_⟩
  rw [Int.ediv_le_iff_le_mul (by have := s.y1; omega)]
  have h := Int.mul_le_mul_of_nonneg_right s.xy m0
  have h2 : m * y = y * m := Int.mul_comm _ _
  have := s.y1
  omega
theorem log_le : ∀ n : Fin 101, (n.val).log2 < 1920 := by decide +kernel
theorem small_log {i : Int} (h0 : 0 ≤ i) (h1 : i ≤ 100) : i.natAbs.log2 < 1920 := log_le ⟨i.natAbs, by omega⟩
theorem num_len' : ∀ n : Fin 101, (Str.empty ++ (toString ((n.val : Nat) : Int) : Str)).length ≤ 1000 := by decide +kernel
theorem pct_len' : ∀ n : Fin 101, (pctS ((n.val : Nat) : Int)).length ≤ 1000 := by decide +kernel
theorem num_len {i : Int} (h0 : 0 ≤ i) (h1 : i ≤ 100) : (Str.empty ++ (toString i : Str)).length ≤ 1000 := by
  obtain ⟨n, rfl⟩ : ∃ n : Nat, i = (n : Int) := ⟨i.toNat, by omega⟩
  exact num_len' ⟨n, by omega⟩
theorem pct_len {i : Int} (h0 : 0 ≤ i) (h1 : i ≤ 100) : (pctS i).length ≤ 1000 := by
  obtain ⟨n, rfl⟩ : ∃ n : Nat, i = (n : Int) := ⟨i.toNat, by omega⟩
  exact pct_len' ⟨n, by omega⟩
section
variable {P : Program} {w : World} {K : PySem.W.Frag} {mg : Str → Option Value} {base : Heap}
theorem ok_isNumber {f : Addr} {fd : FuncData} (D : Gd K mg "is_number" sIsNumber [.non] f fd) (b : Bi mg) : FnOk P w K mg base CX0 1 f fd ["value", "least", "most"] spNumber := by
  refine D.F.ok scIsNumber (fun vs H Q E h => ?_) (fun cdv A outer s H vs Q E hr h => ?_)
  · obtain ⟨i, lo, hi, rfl, _⟩ := h
    rfl
  obtain ⟨i, lo, hi, rfl, k⟩ := h
  refine ⟨_, (pss_cons (ps_if (PW.pt (pw_or (pt_not (pt_val (pe_callB call_isi (by rfl) b.isinstance b_isi (pa_cons (pv 0) (pa_cons (pe_bltn (v := .ty "int") (by rfl) b.int b_int rfl) pa_nil))))) (pw_or1 (pt_val (pe_callB call_isi (by rfl) b.isinstance b_isi (pa_cons (pv 0) (pa_cons (pe_bltn (v := .ty "bool") (by rfl) b.bool b_bool rfl) pa_nil))))))) (pss_one (ps_ret pe_bl)) pss_nil) (pss_one (ps_ret (pe_and (pe_cmpR op_le (pv 1) (pv 0) (nomark _)) (pe_one (pe_or (pe_cmpR op_isN (pv 2) pe_non (nomark _)) (pe_one (pe_cmpR op_le (pv 0) (pv 2) (nomark _))))))))), ?_⟩
  refine ⟨_, rfl, _, _, _, _, true, rfl, .ty _, .base (.int _), kit_int_int, true, rfl, iteF ?_⟩
  refine ⟨_, rfl, _, _, _, _, false, rfl, .ty _, .base (.int _), kit_int_bool, false, rfl, iteF ?_⟩
  refine ⟨_, rfl, _, rfl, _, _, rfl, rfl, _, rfl, ?_⟩
  unfold numO at k
  by_cases c : lo ≤ i
  · rw [decide_eq_true c] at k ⊢
    rw [Bool.true_and] at k
    refine iteT ?_
    cases hi with
    | none => exact ⟨_, rfl, rfl, _, rfl, iteT k⟩
    | some h => exact ⟨_, rfl, rfl, _, rfl, iteF ⟨_, rfl, _, rfl, _, _, rfl, rfl, k⟩⟩
  · rw [decide_eq_false c] at k ⊢
    exact iteF k
theorem ok_isShare {f f1 : Addr} {fd fd1 : FuncData} (D : Gf K mg "is_share" sIsShare ["value"] f fd) (DIsNumber : Gd K mg "is_number" sIsNumber [.non] f1 fd1) (b : Bi mg) (hg : mg "gcd" = some (.builtin "math.gcd")) :
    FnOk P w K mg base CX0 2 f fd ["value"] spIsShare := by
  have GIsNumber : FnOk P w K mg base CX0 1 f1 fd1 ["value", "least", "most"] spNumber := ok_isNumber DIsNumber b
  refine D.F.ok scIsShare (fun vs H Q E h => ?_) (fun cdv A outer s H vs Q E hr h => ?_)
  · obtain ⟨a, x, y, rfl, _⟩ := h
    rfl
  obtain ⟨a, x, y, rfl, hp, so, k⟩ := h
  refine ⟨_, (pss_cons (ps_if (PW.pt (pw_or (pt_not (pt_val (pe_callB call_isi (by rfl) b.isinstance b_isi (pa_cons (pv 0) (pa_cons (pe_bltn (v := .ty "tuple") (by rfl) b.tuple b_tuple rfl) pa_nil))))) (pw_or1 (pt_cmpR op_ne (pe_callB call_len_seq (by rfl) b.len PySem.boot_len (pa_cons (pv 0) pa_nil)) pe_int (nomark _))))) (pss_one (ps_ret pe_bl)) pss_nil) (pss_cons (ps_asg (pv 0) (pg_tup rfl (pgs_cons (pg_name (i := 1) scIsShare.nd rfl (.inl rfl)) (pgs_cons (pg_name (i := 2) scIsShare.nd rfl (.inl rfl)) pgs_nil)))) (pss_one (ps_ret (pe_and (pe_call GIsNumber (hr.mono (by decide)) (by rfl) DIsNumber.m DIsNumber.kp (num_b2 DIsNumber.F) (.cons (show RelV .non Value.none from rfl) .nil) pass0 (pa_cons (pv 1) (pa_cons pe_int pa_nil))) (pe_and (pe_call GIsNumber (hr.mono (by decide)) (by rfl) DIsNumber.m DIsNumber.kp (num_b2 DIsNumber.F) (.cons (show RelV .non Value.none from rfl) .nil) pass0 (pa_cons (pv 2) (pa_cons pe_int pa_nil))) (pe_one (pe_cmpR op_eq (pe_callBfun cr_gcd (by rfl) hg (pa_cons (pv 1) (pa_cons (pv 2) pa_nil))) pe_int (nomark _))))))))), ?_⟩
  refine ⟨_, rfl, _, _, _, _, true, rfl, .ty _, .base (.tup hp), kit_tup_tup, true, rfl, iteF ?_⟩
  refine ⟨_, rfl, a, _, rfl, .inr (SqT.of hp), rfl, _, rfl, ?_⟩
  rw [decide_eq_true (p := V.int (([V.int x, V.int y] : List V).length : Nat) = V.int 2) rfl]
  refine iteF ⟨_, rfl, a, _, rfl, SqT.of hp, rfl, _, _, rfl, _, _, rfl, rfl, ?_⟩
  refine ⟨_, rfl, x, 0, none, rfl, ?_⟩
  rw [show numO 0 none x = true by unfold numO; rw [decide_eq_true so.x0]; rfl]
  refine ⟨true, rfl, iteT ⟨_, rfl, y, 1, none, rfl, ?_⟩⟩
  rw [show numO 1 none y = true by unfold numO; rw [decide_eq_true so.y1]; rfl]
  refine ⟨true, rfl, iteT ⟨_, rfl, _, rfl, x, y, rfl, rfl, ?_⟩⟩
  rw [so.g, decide_eq_true (p := V.int ((1 : Nat) : Int) = V.int 1) rfl]
  exact k
theorem ok_isLess {f : Addr} {fd : FuncData} (D : Gf K mg "is_less" sIsLess ["one", "other"] f fd) : FnOk P w K mg base CX0 1 f fd ["one", "other"] (spIsLess K) := by
  refine D.F.ok scIsLess (fun vs H Q E h => ?_) (fun cdv A outer s H vs Q E hr h => ?_)
  · obtain ⟨a, b, x, y, z, w, rfl, _⟩ := h
    rfl
  obtain ⟨a, b, x, y, z, w, rfl, h1, h2, bx, bz, k⟩ := h
  refine ⟨_, (pss_one (ps_ret (pe_cmpR op_lt (pe_op op_mul (pe_ix ix_tup (pv 0) pe_int (fun _ _ => rfl)) (pe_ix ix_tup (pv 1) pe_int (fun _ _ => rfl))) (pe_op op_mul (pe_ix ix_tup (pv 1) pe_int (fun _ _ => rfl)) (pe_ix ix_tup (pv 0) pe_int (fun _ _ => rfl))) (nomark _)))), ?_⟩
  exact ⟨_, rfl, a, _, _, _, rfl, rfl, h1, at0, _, rfl, b, _, _, _, rfl, rfl, h2, at1, _, _, rfl, rfl, .inl bx, _, rfl, b, _, _, _, rfl, rfl, h2, at0, _, rfl, a, _, _, _, rfl, rfl, h1, at1, _, _, rfl, rfl, .inl bz, _, _, rfl, rfl, k⟩
theorem ok_within {f f1 f2 f3 cW : Addr} {fd fd1 fd2 fd3 : FuncData} (D : Gf K mg "is_within_whole" sIsWithinWhole ["value"] f fd) (DIsShare : Gf K mg "is_share" sIsShare ["value"] f1 fd1) (DIsLess : Gf K mg "is_less" sIsLess ["one", "other"] f2 fd2)
    (DIsNumber : Gd K mg "is_number" sIsNumber [.non] f3 fd3) (b : Bi mg) (hg : mg "gcd" = some (.builtin "math.gcd")) (hW : mg "WHOLE" = some (.ref cW)) (kW : ∀ H, SqT K H cW [.int 1, .int 1]) :
    FnOk P w K mg base CX0 3 f fd ["value"] spIsShare := by
  have GIsShare : FnOk P w K mg base CX0 2 f1 fd1 ["value"] spIsShare := ok_isShare DIsShare DIsNumber b hg
  have GIsLess : FnOk P w K mg base CX0 1 f2 fd2 ["one", "other"] (spIsLess K) := ok_isLess DIsLess
  refine D.F.ok scIsWithinWhole (fun vs H Q E h => ?_) (fun cdv A outer s H vs Q E hr h => ?_)
  · obtain ⟨a, x, y, rfl, _⟩ := h
    rfl
  obtain ⟨a, x, y, rfl, hp, so, k⟩ := h
  refine ⟨_, (pss_one (ps_ret (pe_and (pe_call GIsShare (hr.mono (by decide)) (by rfl) DIsShare.m DIsShare.kp DIsShare.b .nil pass0 (pa_cons (pv 0) pa_nil)) (pe_one (pe_not (pe_call GIsLess (hr.mono (by decide)) (by rfl) DIsLess.m DIsLess.kp DIsLess.b .nil pass0 (pa_cons (pe_glob (v := .ref cW) (by rfl) hW rfl) (pa_cons (pv 0) pa_nil)))))))), ?_⟩
  refine ⟨_, rfl, a, x, y, rfl, hp, so, true, rfl, iteT ?_⟩
  refine ⟨_, rfl, cW, a, 1, 1, x, y, rfl, kW _, SqT.of hp, ⟨by decide, by decide⟩, ⟨by have := so.x0; omega, by have := so.xy; have := so.yz; omega⟩, _, rfl, ?_⟩
  rw [decide_eq_false (show ¬ 1 * y < x * 1 by have := so.xy; omega)]
  exact k
theorem ok_rounded {f : Addr} {fd : FuncData} (D : Gf K mg "rounded_down" sRoundedDown ["share", "many"] f fd) : FnOk P w K mg base CX0 1 f fd ["share", "many"] spRounded := by
  refine D.F.ok scRoundedDown (fun vs H Q E h => ?_) (fun cdv A outer s H vs Q E hr h => ?_)
  · obtain ⟨a, x, y, m, rfl, _⟩ := h
    rfl
  obtain ⟨a, x, y, m, rfl, hp, so, m0, m1, k⟩ := h
  refine ⟨_, (pss_one (ps_ret (pe_op op_fdiv (pe_op op_mul (pe_ix ix_tup (pv 0) pe_int (fun _ _ => rfl)) (pv 1)) (pe_ix ix_tup (pv 0) pe_int (fun _ _ => rfl))))), ?_⟩
  have := so.y1
  have := so.yz
  exact ⟨_, rfl, a, _, _, _, rfl, rfl, SqT.of hp, at0, _, rfl, _, _, rfl, rfl, .inr ⟨by omega, by omega⟩, _, rfl, a, _, _, _, rfl, rfl, SqT.of hp, at1, _, _, rfl, rfl, ⟨by omega, by omega⟩, k⟩
theorem ok_bar {f f0 f1 f2 f3 f4 cW : Addr} {fd fd0 fd1 fd2 fd3 fd4 : FuncData} {tS : Tok} (D : Gd K mg "bar" sBar [.int 20] f fd) (DIsWithinWhole : Gf K mg "is_within_whole" sIsWithinWhole ["value"] f0 fd0) (DIsShare : Gf K mg "is_share" sIsShare ["value"] f1 fd1) (DIsLess : Gf K mg "is_less" sIsLess ["one", "other"] f2 fd2)
    (DIsNumber : Gd K mg "is_number" sIsNumber [.non] f3 fd3) (DRoundedDown : Gf K mg "rounded_down" sRoundedDown ["share", "many"] f4 fd4) (b : Bi mg) (hg : mg "gcd" = some (.builtin "math.gcd")) (hW : mg "WHOLE" = some (.ref cW)) (kW : ∀ H, SqT K H cW [.int 1, .int 1]) (hS : mg "MOST_SIGNS" = some (.int 100 tS)) :
    FnOk P w K mg base CX0 4 f fd ["share", "many"] spBar := by
  have GIsWithinWhole : FnOk P w K mg base CX0 3 f0 fd0 ["value"] spIsShare := ok_within DIsWithinWhole DIsShare DIsLess DIsNumber b hg hW kW
  have GIsNumber : FnOk P w K mg base CX0 1 f3 fd3 ["value", "least", "most"] spNumber := ok_isNumber DIsNumber b
  have GRoundedDown : FnOk P w K mg base CX0 1 f4 fd4 ["share", "many"] spRounded := ok_rounded DRoundedDown
  refine D.F.ok scBar (fun vs H Q E h => ?_) (fun cdv A outer s H vs Q E hr h => ?_)
  · obtain ⟨a, x, y, m, rfl, _⟩ := h
    rfl
  obtain ⟨a, x, y, m, rfl, hp, so, m0, m1, k⟩ := h
  obtain ⟨p0, p1⟩ := part_le so (show 0 ≤ m by omega)
  refine ⟨_, (pss_cons (ps_if (pt_not (pt_val (pe_call GIsWithinWhole (hr.mono (by decide)) (by rfl) DIsWithinWhole.m DIsWithinWhole.kp DIsWithinWhole.b .nil pass0 (pa_cons (pv 0) pa_nil)))) (pss_one ps_never) pss_nil) (pss_cons (ps_if (pt_not (pt_val (pe_call GIsNumber (hr.mono (by decide)) (by rfl) DIsNumber.m DIsNumber.kp (num_b3 DIsNumber.F) .nil pass0 (pa_cons (pv 1) (pa_cons pe_int (pa_cons (pe_glob (v := .int 100) (by rfl) hS ⟨_, rfl⟩) pa_nil)))))) (pss_one ps_never) pss_nil) (pss_cons (ps_set (i := 2) scBar.nd rfl (.inl rfl) (pe_call GRoundedDown (hr.mono (by decide)) (by rfl) DRoundedDown.m DRoundedDown.kp DRoundedDown.b .nil pass0 (pa_cons (pv 0) (pa_cons (pv 1) pa_nil)))) (pss_one (ps_ret (pe_op op_add_str (pe_op op_mulS pe_str (pv 2)) (pe_op op_mulS pe_str (pe_op op_sub (pv 1) (pv 2))))))))), ?_⟩
  refine ⟨_, rfl, a, x, y, rfl, hp, so, true, rfl, iteF ?_⟩
  refine ⟨_, rfl, m, 1, some 100, rfl, ?_⟩
  rw [show numO 1 (some 100) m = true by unfold numO; rw [decide_eq_true m0]; show (true && decide (m ≤ 100)) = true; rw [decide_eq_true m1]; rfl]
  refine ⟨true, rfl, iteF ?_⟩
  refine ⟨_, rfl, _, rfl, a, x, y, m, rfl, hp, so, by omega, m1, ?_⟩
  refine ⟨_, rfl, 35, _, by rfl, rfl, p0, by omega, _, rfl, _, rfl, _, _, rfl, rfl, 46, _, by rfl, rfl, by omega, by omega, _, _, rfl, rfl, ?_, k⟩
  rw [repS_len, repS_len]
  exact small1000' (by omega)
theorem ok_percent {f f0 f1 f2 f3 f4 cW : Addr} {fd fd0 fd1 fd2 fd3 fd4 : FuncData} (D : Gf K mg "percent" sPercent ["share"] f fd) (DIsWithinWhole : Gf K mg "is_within_whole" sIsWithinWhole ["value"] f0 fd0) (DIsShare : Gf K mg "is_share" sIsShare ["value"] f1 fd1) (DIsLess : Gf K mg "is_less" sIsLess ["one", "other"] f2 fd2)
    (DIsNumber : Gd K mg "is_number" sIsNumber [.non] f3 fd3) (DRoundedDown : Gf K mg "rounded_down" sRoundedDown ["share", "many"] f4 fd4) (b : Bi mg) (hg : mg "gcd" = some (.builtin "math.gcd")) (hW : mg "WHOLE" = some (.ref cW)) (kW : ∀ H, SqT K H cW [.int 1, .int 1]) :
    FnOk P w K mg base CX0 4 f fd ["share"] spPercent := by
  have GIsWithinWhole : FnOk P w K mg base CX0 3 f0 fd0 ["value"] spIsShare := ok_within DIsWithinWhole DIsShare DIsLess DIsNumber b hg hW kW
  have GRoundedDown : FnOk P w K mg base CX0 1 f4 fd4 ["share", "many"] spRounded := ok_rounded DRoundedDown
  refine D.F.ok scPercent (fun vs H Q E h => ?_) (fun cdv A outer s H vs Q E hr h => ?_)
  · obtain ⟨a, x, y, rfl, _⟩ := h
    rfl
  obtain ⟨a, x, y, rfl, hp, so, k⟩ := h
  obtain ⟨p0, p1⟩ := part_le so (show 0 ≤ 100 by omega)
  refine ⟨_, (pss_cons (ps_if (pt_not (pt_val (pe_call GIsWithinWhole (hr.mono (by decide)) (by rfl) DIsWithinWhole.m DIsWithinWhole.kp DIsWithinWhole.b .nil pass0 (pa_cons (pv 0) pa_nil)))) (pss_one ps_never) pss_nil) (pss_one (ps_ret (pe_joined (.cons (pe_fmt (pe_call GRoundedDown (hr.mono (by decide)) (by rfl) DRoundedDown.m DRoundedDown.kp DRoundedDown.b .nil pass0 (pa_cons (pv 0) (pa_cons pe_int pa_nil)))) (.cons pe_str .nil)))))), ?_⟩
  refine ⟨_, rfl, a, x, y, rfl, hp, so, true, rfl, iteF ?_⟩
  refine ⟨_, rfl, a, x, y, 100, rfl, hp, so, by decide, by decide, .inr ⟨_, rfl, ?_, ?_⟩⟩
  · exact small_log p0 p1
  · refine ⟨_, rfl, ?_, _, rfl, ?_, k⟩
    · exact small1000' (num_len p0 p1)
    · exact small1000' (pct_len p0 p1)
end
end Hf
set_option Elab.async false
set_option maxRecDepth 100000
set_option maxHeartbeats 4000000
namespace Hf
open PySem L2 PySem.Spec PyProof.Rows
/-! ## rows of signs -/
theorem cnt_rep (c d : Nat) : ∀ n : Nat, PyProof.Rows.cnt c (List.replicate n d) = if d = c then (n : Int) else 0
  | 0 => by split <;> rfl
  | n + 1 => by
    rw [List.replicate_succ, cnt_cons, cnt_rep c d n]
    split <;> omega
theorem rowS_signs (k m : Int) : (rowS k m).cps.toList = List.replicate k.toNat 35 ++ List.replicate (m - k).toNat 46 := by
  unfold rowS
  rw [cps_toList_append]
  rfl
theorem rowS_count {k m : Int} (k0 : 0 ≤ k) : Txt.count (rowS k m) ("#" : Str) = k := by
  rw [show ("#" : Str) = ⟨#[35]⟩ from rfl, count_cnt, rowS_signs, cnt_append, cnt_rep, cnt_rep, if_pos rfl, if_neg (by decide)]
  omega
theorem rowS_full {k m : Int} (k0 : 0 ≤ k) (k1 : k ≤ m) : rowS k m = repS 35 m.toNat ↔ k = m := by
  constructor
  · intro e
    have h := congrArg (fun z : Str => PyProof.Rows.cnt 35 z.cps.toList) e
    replace h : PyProof.Rows.cnt 35 (rowS k m).cps.toList = PyProof.Rows.cnt 35 (repS 35 m.toNat).cps.toList := h
    rw [rowS_signs, cnt_append, cnt_rep, cnt_rep, if_pos rfl, if_neg (by decide)] at h
    have h2 : PyProof.Rows.cnt 35 (repS 35 m.toNat).cps.toList = (m.toNat : Int) := by
      show PyProof.Rows.cnt 35 (List.replicate m.toNat 35).toArray.toList = _
      rw [List.toList_toArray, cnt_rep, if_pos rfl]
    rw [h2] at h
    omega
  · rintro rfl
    unfold rowS
    rw [Int.sub_self]
    show repS 35 k.toNat ++ (⟨#[]⟩ : Str) = _
    show (⟨(repS 35 k.toNat).cps ++ #[]⟩ : Str) = _
    rw [Array.append_empty]
/-! ## hundredths -/
theorem pct_split' : ∀ n : Fin 101, Txt.split (pctS ((n.val : Nat) : Int)) (" " : Str) = [(toString ((n.val : Nat) : Int) : Str), "in", "100"] := by decide +kernel
theorem pct_int' : ∀ n : Fin 101, PySem.intText? (toString ((n.val : Nat) : Int) : Str) = some ((n.val : Nat) : Int) := by decide +kernel
theorem pct_len0' : ∀ n : Fin 101, (toString ((n.val : Nat) : Int) : Str).length ≤ 640 := by decide +kernel
theorem pct_facts {i : Int} (h0 : 0 ≤ i) (h1 : i ≤ 100) : Txt.split (pctS i) (" " : Str) = [(toString i : Str), "in", "100"] ∧ PySem.intText? (toString i : Str) = some i ∧ (toString i : Str).length ≤ 640 := by
  obtain ⟨n, rfl⟩ : ∃ n : Nat, i = (n : Int) := ⟨i.toNat, by omega⟩
  exact ⟨pct_split' ⟨n, by omega⟩, pct_int' ⟨n, by omega⟩, pct_len0' ⟨n, by omega⟩⟩
/-! ## the law's shares -/
theorem share_low {tp bt a : Int} (t0 : 0 ≤ tp) (tb : tp ≤ bt) (b1 : 1 ≤ bt) (bz : bt ≤ 1000000000) (a0 : 0 < a) (h : a.natAbs = Nat.gcd bt.natAbs tp.natAbs) : ShOk (tp / a) (bt / a) := by
  obtain ⟨T, rfl⟩ : ∃ n : Nat, tp = (n : Int) := ⟨tp.toNat, by omega⟩
  obtain ⟨B, rfl⟩ : ∃ n : Nat, bt = (n : Int) := ⟨bt.toNat, by omega⟩
  obtain ⟨A, rfl⟩ : ∃ n : Nat, a = (n : Int) := ⟨a.toNat, by omega⟩
  simp only [Int.natAbs_natCast] at h
  have dT : A ∣ T := by rw [h]; exact Nat.gcd_dvd_right _ _
  have dB : A ∣ B := by rw [h]; exact Nat.gcd_dvd_left _ _
  have pA : 0 < A := by omega
  have le : B / A ≤ B := Nat.div_le_self _ _
  have le2 : T / A ≤ B / A := Nat.div_le_div_right (by omega)
  have p1 : 1 ≤ B / A := Nat.div_pos (Nat.le_of_dvd (by omega) dB) pA
  have e1 : ((T : Int) / (A : Int)) = ((T / A : Nat) : Int) := by simp
  have e2 : ((B : Int) / (A : Int)) = ((B / A : Nat) : Int) := by simp
  rw [e1, e2]
  have q0 : (0 : Int) ≤ ((T / A : Nat) : Int) := Int.natCast_nonneg _
  refine ⟨q0, by omega, by omega, by omega, ?_⟩
  simp only [Int.natAbs_natCast]
  rw [Nat.gcd_div dT dB, Nat.gcd_comm, ← h]
  exact Nat.div_self pA
def spCell (K : PySem.W.Frag) : Sp := fun vs H Q _ => ∃ (a : Addr) (k : Int) (ns : List Int), vs = [.ref a, .int k] ∧ SqL K H a (ns.map V.int) ∧ ns.length ≤ 63 ∧ 0 ≤ k ∧ ∀ (i : Int) (H' : Hp), Sm H H' → Q (.int i) H'
def ShAt (H : Hp) (v : V) : Prop := ∃ (p : Addr) (x y : Int), v = .ref p ∧ H p = some (.tup [.int x, .int y]) ∧ ShOk x y
theorem ShAt.sm {H H' : Hp} {v : V} (h : ShAt H v) (s : Sm H H') : ShAt H' v := by
  obtain ⟨p, x, y, e, h, so⟩ := h
  exact ⟨p, x, y, e, s.tup h, so⟩
theorem ShAt.updL {H : Hp} {v : V} {p : Addr} {xs : List V} {o : HO} (h : ShAt H v) (hp : H p = some (.lst xs)) : ShAt (upd H p o) v := by
  obtain ⟨q, x, y, e, h, so⟩ := h
  refine ⟨q, x, y, e, ?_, so⟩
  rw [upd_ne (fun z => by rw [z, hp] at h; cases h)]
  exact h
def spLawShare : Sp := fun vs H Q _ => ∃ c : Int, vs = [.int c] ∧ ∀ (v : V) (H' : Hp), Sm H H' → ShAt H' v → Q v H'
def spBarRight : Sp := fun vs H Q _ => ∃ (a : Addr) (x y m : Int), vs = [.ref a, .int m, .str (rowS (x * m / y) m)] ∧ H a = some (.tup [.int x, .int y]) ∧ ShOk x y ∧ 1 ≤ m ∧ m ≤ 100 ∧ Q (.bl true) H
def spPctRight : Sp := fun vs H Q _ => ∃ (a : Addr) (x y : Int), vs = [.ref a, .str (pctS (x * 100 / y))] ∧ H a = some (.tup [.int x, .int y]) ∧ ShOk x y ∧ ∀ H', Sm H H' → Q (.bl true) H'
section
variable {P : Program} {w : World} {K : PySem.W.Frag} {mg : Str → Option Value} {base : Heap}
theorem ok_cell {f : Addr} {fd : FuncData} (D : Gf K mg "_law_cell_at" sLawCellAt ["_law_script", "_law_k"] f fd) (b : Bi mg) : FnOk P w K mg base CX0 6 f fd ["_law_script", "_law_k"] (spCell K) := by
  refine D.F.ok scLawCellAt (fun vs H Q E h => ?_) (fun cdv A outer s H vs Q E hr h => ?_)
  · obtain ⟨a, k, ns, rfl, _⟩ := h
    rfl
  obtain ⟨a, k, ns, rfl, hS, h63, h0, q⟩ := h
  have ln : (ns.map V.int).length = ns.length := List.length_map _
  refine ⟨_, (pss_cons (ps_if (pt_cmpR op_lt (pv 1) (pe_callB call_len_seq (by rfl) b.len PySem.boot_len (pa_cons (pv 0) pa_nil)) (nomark _)) (pss_one (ps_ret (pe_ix ix_list (pv 0) (pv 1) (fun _ _ => rfl)))) pss_nil) (pss_cons (ps_if (pt_cmpR (op_eqD (hu64 hr)) (pv 0) (pe_lst pa_nil) (nomark _)) (pss_one (ps_ret (pe_op op_mul (pv 1) pe_int))) pss_nil) (pss_one (ps_ret (pe_op op_mod (pe_op op_mul (pe_op op_add (pe_ix ix_list (pv 0) (pe_op op_mod (pv 1) (pe_callB call_len_seq (by rfl) b.len PySem.boot_len (pa_cons (pv 0) pa_nil))) (fun _ _ => rfl)) (pv 1)) pe_int) pe_int))))), ?_⟩
  refine ⟨_, rfl, _, rfl, a, _, rfl, .inl hS, _, _, rfl, rfl, _, rfl, ?_⟩
  rw [ln]
  by_cases c1 : k < ((ns.length : Nat) : Int)
  · rw [decide_eq_true c1]
    refine iteT ?_
    obtain ⟨j, rfl⟩ : ∃ j : Nat, k = (j : Int) := ⟨k.toNat, by omega⟩
    have hj : j < ns.length := by omega
    exact ⟨_, rfl, _, rfl, a, _, _, _, rfl, rfl, hS, atI_nat (by rw [List.getElem?_map, List.getElem?_eq_getElem hj]; rfl), q _ H (Sm.refl H)⟩
  · rw [decide_eq_false c1]
    refine iteF ⟨_, rfl, by show 0 ≤ sizeLine; decide, fun p hp => ?_⟩
    have s1 : Sm H (upd H p (.lst [])) := Sm.new hp
    refine ⟨_, _, .lst (s1.seqL hS) (intsDp ns), .lst (SqL.of upd_same) .nil, ints_shaped ns, nil_shaped, _, rfl, ?_⟩
    cases ns with
    | nil =>
      rw [show PyData.eqv (.list (([] : List Int).map PyData.int)) (.list []) = true from rfl]
      exact iteT ⟨_, rfl, _, _, rfl, rfl, .inr ⟨by decide, by decide⟩, q _ _ s1⟩
    | cons n r =>
      rw [show PyData.eqv (.list ((n :: r).map PyData.int)) (.list []) = false from rfl]
      have pos : (0 : Int) < (((n :: r).length : Nat) : Int) := by simp only [List.length_cons]; omega
      have m0 := Int.emod_nonneg k (show (((n :: r).length : Nat) : Int) ≠ 0 by omega)
      have m1 := Int.emod_lt_of_pos k pos
      obtain ⟨j, hj⟩ : ∃ j : Nat, k % (((n :: r).length : Nat) : Int) = (j : Int) := ⟨(k % (((n :: r).length : Nat) : Int)).toNat, by omega⟩
      have jl : j < (n :: r).length := by omega
      refine iteF ⟨_, rfl, _, rfl, _, rfl, a, _, rfl, .inl (s1.seqL hS), _, _, rfl, rfl, ?_⟩
      rw [ln]
      refine ⟨pos, a, _, _, _, rfl, rfl, s1.seqL hS, at_of (j := j) (v := V.int (n :: r)[j]) hj (by rw [List.getElem?_map, List.getElem?_eq_getElem jl]; rfl), _, rfl, _, _, rfl, rfl, _, _, rfl, rfl, .inr ⟨by decide, by decide⟩, _, _, rfl, rfl, by show (0 : Int) < 2147483647; decide, q _ _ s1⟩
theorem ok_lawShare {f : Addr} {fd : FuncData} (D : Gf K mg "_law_share" sLawShare ["_law_cell"] f fd) (b : Bi mg) : FnOk P w K mg base CX0 1 f fd ["_law_cell"] spLawShare := by
  refine D.F.ok scLawShare (fun vs H Q E h => ?_) (fun cdv A outer s H vs Q E hr h => ?_)
  · obtain ⟨c, rfl, _⟩ := h
    rfl
  obtain ⟨c, rfl, q⟩ := h
  refine ⟨_, (pss_cons (ps_set (i := 1) scLawShare.nd rfl (.inl rfl) (pe_op op_add pe_int (pe_op op_mod (pv 0) (pe_ix ix_list (pe_lst (pa_cons pe_int (pa_cons pe_int (pa_cons pe_int (pa_cons (pe_op op_pow pe_int pe_int) pa_nil))))) (pe_op op_mod (pe_op op_fdiv (pv 0) pe_int) pe_int) (fun _ _ => rfl))))) (pss_cons (ps_set (i := 2) scLawShare.nd rfl (.inl rfl) (pe_op op_mod (pe_op op_mul (pe_op op_mod (pe_op op_mul (pv 0) pe_int) pe_int) pe_int) (pe_op op_add (pv 1) pe_int))) (pss_cons (ps_par (i := 3) (j := 4) rfl scLawShare.nd rfl rfl (by decide) rfl rfl (pa_cons (pv 1) (pa_cons (pv 2) pa_nil)) rfl) (pss_cons (ps_while PassesOwn.never (pt_cmpR op_ne (pv 4) pe_int (nomark _)) (pss_one (ps_par (i := 3) (j := 4) rfl scLawShare.nd rfl rfl (by decide) rfl rfl (pa_cons (pv 4) (pa_cons (pe_op op_mod (pv 3) (pv 4)) pa_nil)) rfl))) (pss_one (ps_ret (pe_tup (pa_cons (pe_op op_fdiv (pv 2) (pv 3)) (pa_cons (pe_op op_fdiv (pv 1) (pv 3)) pa_nil))))))))), ?_⟩
  have pick : ∃ v : Int, atI [V.int 9, V.int 100, V.int 1001, V.int ((10 : Int) ^ (9 : Int).toNat)] (c / 7 % 4) = some (.int v) ∧ 1 ≤ v ∧ v ≤ 1000000000 := by
    have m0 := Int.emod_nonneg (c / 7) (show (4 : Int) ≠ 0 by decide)
    have m1 := Int.emod_lt_of_pos (c / 7) (show (0 : Int) < 4 by decide)
    rcases (show c / 7 % 4 = 0 ∨ c / 7 % 4 = 1 ∨ c / 7 % 4 = 2 ∨ c / 7 % 4 = 3 by omega) with e | e | e | e <;> rw [e]
    · exact ⟨9, atI_nat (j := 0) rfl, by decide, by decide⟩
    · exact ⟨100, atI_nat (j := 1) rfl, by decide, by decide⟩
    · exact ⟨1001, atI_nat (j := 2) rfl, by decide, by decide⟩
    · exact ⟨1000000000, atI_nat (j := 3) (by decide), by decide, by decide⟩
  obtain ⟨v, hv, v1, v2⟩ := pick
  refine ⟨_, rfl, 10, 9, rfl, rfl, ⟨by decide, by decide, by decide⟩, by show 4 ≤ sizeLine; decide, fun p hp => ?_⟩
  have s1 := Sm.new (o := .lst [V.int 9, V.int 100, V.int 1001, V.int ((10 : Int) ^ (9 : Int).toNat)]) hp
  refine ⟨_, rfl, _, _, rfl, rfl, ⟨by decide, by decide⟩, _, _, rfl, rfl, by show (0 : Int) < 4; decide, p, _, _, _, rfl, rfl, SqL.of upd_same, hv, _, _, rfl, rfl, v1, _, _, rfl, rfl, ?_⟩
  have b0 := Int.emod_nonneg c (show v ≠ 0 by omega)
  have b1 := Int.emod_lt_of_pos c (show 0 < v by omega)
  generalize hb : 1 + c % v = bt
  refine ⟨_, rfl, _, _, rfl, rfl, .inr ⟨by decide, by decide⟩, _, _, rfl, rfl, by show (0 : Int) < 1000003; decide, _, _, rfl, rfl, .inr ⟨by decide, by decide⟩, _, rfl, _, _, rfl, rfl, _, _, rfl, rfl, by omega, ?_⟩
  have t0 := Int.emod_nonneg (c * 48271 % 1000003 * 7919) (show bt + 1 ≠ 0 by omega)
  have t1 := Int.emod_lt_of_pos (c * 48271 % 1000003 * 7919) (show 0 < bt + 1 by omega)
  generalize ht : c * 48271 % 1000003 * 7919 % (bt + 1) = tp
  rw [ht] at t0 t1
  refine ⟨_, rfl, _, rfl, _, _, rfl, ?_⟩
  refine while_by (fun σ H2 => ∃ (a b : Int), σ = [some (.int c), some (.int bt), some (.int tp), some (.int a), some (.int b)] ∧ H2 = upd H p (.lst [V.int 9, V.int 100, V.int 1001, V.int ((10 : Int) ^ (9 : Int).toNat)]) ∧ 0 ≤ b ∧ 0 < a ∧ a ≤ bt ∧ b ≤ bt ∧ Nat.gcd a.natAbs b.natAbs = Nat.gcd bt.natAbs tp.natAbs)
    (fun σ _ => match σ with | [_, _, _, _, some (.int b)] => b.natAbs | _ => 0) ⟨bt, tp, by subst ht; subst hb; rfl, rfl, t0, by omega, by omega, by omega, rfl⟩ ?_ ?_
  · rintro σ H2 ⟨a, b, rfl, rfl, hb0, ha0, hab, hbb, hg⟩
    refine ⟨_, rfl, rfl, _, rfl, ?_⟩
    by_cases z : b = 0
    · subst z
      rw [decide_eq_true (p := V.int 0 = V.int 0) rfl]
      refine iteF ⟨_, rfl, _, rfl, _, _, rfl, rfl, ⟨by omega, by omega⟩, _, rfl, _, rfl, _, _, rfl, rfl, ⟨by omega, by omega⟩, by show 2 ≤ sizeLine; decide, fun r hr2 => ?_⟩
      exact q _ _ (s1.trans (Sm.new hr2)) ⟨r, tp / a, bt / a, rfl, upd_same, share_low t0 (by omega) (by omega) (by omega) ha0 (by rw [Int.natAbs_zero, Nat.gcd_zero_right] at hg; exact hg)⟩
    · rw [decide_eq_false (fun e => z (V.int.inj e))]
      have r0 := Int.emod_nonneg a z
      have r1 := Int.emod_lt_of_pos a (show 0 < b by omega)
      refine iteT ⟨_, rfl, _, rfl, _, rfl, _, _, rfl, rfl, by omega, _, _, rfl, ⟨b, a % b, rfl, rfl, r0, by omega, hbb, by omega, ?_⟩, ?_⟩
      · rw [← hg, Int.natAbs_emod_of_nonneg (by omega)]
        conv => rhs; rw [Nat.gcd_comm, Nat.gcd_rec, Nat.gcd_comm]
      · show (a % b).natAbs < b.natAbs
        omega
  · rintro σ H2 Q1 Q2 i ⟨v1, e1, e2, k, e3, h⟩
    exact ⟨v1, e1, e2, k, e3, i _ _ h⟩
theorem floor_le {x y m : Int} (s : ShOk x y) : x * m / y * y ≤ x * m ∧ x * m < (x * m / y + 1) * y := by
  have h := Int.mul_ediv_add_emod (x * m) y
  have y1 := s.y1
  have r0 := Int.emod_nonneg (x * m) (show y ≠ 0 by omega)
  have r1 := Int.emod_lt_of_pos (x * m) (show 0 < y by omega)
  rw [Int.add_mul, Int.one_mul, Int.mul_comm (x * m / y) y]
  omega
theorem ok_barRight {f : Addr} {fd : FuncData} (D : Gf K mg "_law_bar_right" sLawBarRight ["_law_one_share", "_law_many", "_law_got"] f fd) (b : Bi mg) : FnOk P w K mg base CX0 1 f fd ["_law_one_share", "_law_many", "_law_got"] spBarRight := by
  refine D.F.ok scLawBarRight (fun vs H Q E h => ?_) (fun cdv A outer s H vs Q E hr h => ?_)
  · obtain ⟨a, x, y, m, rfl, _⟩ := h
    rfl
  obtain ⟨a, x, y, m, rfl, hp, so, m0, m1, q⟩ := h
  obtain ⟨p0, p1⟩ := part_le so (show 0 ≤ m by omega)
  obtain ⟨f0, f1⟩ := floor_le (m := m) so
  have y1 := so.y1
  have yz := so.yz
  refine ⟨_, (pss_cons (ps_set (i := 3) scLawBarRight.nd rfl (.inl rfl) (pe_m1 PySem.F.slot_str_count PySem.F.type_str_count mt_count (pv 2) pe_str)) (pss_cons (ps_if (PW.pt (pw_or (pt_not (pt_val (pe_callB call_isi (by rfl) b.isinstance b_isi (pa_cons (pv 2) (pa_cons (pe_bltn (v := .ty "str") (by rfl) b.str b_str rfl) pa_nil))))) (pw_or1 (pt_cmpR op_ne (pv 2) (pe_op op_add_str (pe_op op_mulS pe_str (pv 3)) (pe_op op_mulS pe_str (pe_op op_sub (pv 1) (pv 3)))) (nomark _))))) (pss_one (ps_ret pe_bl)) pss_nil) (pss_one (ps_ret (pe_chain op_le op_lt (pe_op op_mul (pv 3) (pe_ix ix_tup (pv 0) pe_int (fun _ _ => rfl))) (pe_op op_mul (pe_ix ix_tup (pv 0) pe_int (fun _ _ => rfl)) (pv 1)) (pe_op op_mul (pe_op op_add (pv 3) pe_int) (pe_ix ix_tup (pv 0) pe_int (fun _ _ => rfl)))))))), ?_⟩
  refine ⟨_, rfl, ⟨_, rfl⟩, _, _, rfl, rfl, ?_⟩
  rw [rowS_count p0]
  refine ⟨_, rfl, _, _, _, _, true, rfl, .ty _, .base (.str _), kit_str_str, true, rfl, iteF ?_⟩
  refine ⟨_, rfl, _, rfl, 35, _, by rfl, rfl, p0, by omega, _, rfl, _, rfl, _, _, rfl, rfl, 46, _, by rfl, rfl, by omega, by omega, _, _, rfl, rfl, ?_, rfl, _, rfl, ?_⟩
  · rw [repS_len, repS_len]
    exact small1000' (by omega)
  rw [decide_eq_true (p := V.str (rowS (x * m / y) m) = V.str (repS 35 (x * m / y).toNat ++ repS 46 (m - x * m / y).toNat)) rfl]
  refine iteF ?_
  refine ⟨_, rfl, _, rfl, a, _, _, _, rfl, rfl, SqT.of hp, at1, _, _, rfl, rfl, .inl ⟨by omega, by omega⟩, _, rfl, a, _, _, _, rfl, rfl, SqT.of hp, at0, _, rfl, _, _, rfl, rfl, .inr ⟨by omega, by omega⟩, _, _, rfl, rfl, _, rfl, ?_⟩
  rw [decide_eq_true f0]
  refine iteT ⟨_, rfl, _, _, rfl, rfl, _, rfl, a, _, _, _, rfl, rfl, SqT.of hp, at1, _, _, rfl, rfl, .inl ⟨by omega, by omega⟩, _, _, rfl, rfl, ?_⟩
  show Q (V.bl (decide (x * m < (x * m / y + 1) * y))) H
  rw [decide_eq_true f1]
  exact q
theorem ok_pctRight {f : Addr} {fd : FuncData} (D : Gf K mg "_law_percent_right" sLawPercentRight ["_law_one_share", "_law_got"] f fd) (b : Bi mg) : FnOk P w K mg base CX0 1 f fd ["_law_one_share", "_law_got"] spPctRight := by
  refine D.F.ok scLawPercentRight (fun vs H Q E h => ?_) (fun cdv A outer s H vs Q E hr h => ?_)
  · obtain ⟨a, x, y, rfl, _⟩ := h
    rfl
  obtain ⟨a, x, y, rfl, hp, so, q⟩ := h
  obtain ⟨p0, p1⟩ := part_le so (show 0 ≤ 100 by omega)
  obtain ⟨f0, f1⟩ := floor_le (m := 100) so
  obtain ⟨e1, e2, e3⟩ := pct_facts p0 p1
  have y1 := so.y1
  have yz := so.yz
  refine ⟨_, (pss_cons (ps_set (i := 2) scLawPercentRight.nd rfl (.inl rfl) (pe_split (pv 1) pe_str)) (pss_cons (ps_if (PW.pt (pw_or (pt_cmpR op_ne (pe_callB call_len_seq (by rfl) b.len PySem.boot_len (pa_cons (pv 2) pa_nil)) pe_int (nomark _)) (pw_or (pt_cmpR (op_neD (hu64 hr)) (pe_slice sl_list (pv 2) (po_some pe_int) po_none) (pe_lst (pa_cons pe_str (pa_cons pe_str pa_nil))) (nomark _)) (pw_or1 (pt_cmpR op_ne (pe_callTy call_str_int (by rfl) b.str b_str (pa_cons (pe_callTy call_int_str (by rfl) b.int b_int (pa_cons (pe_ix ix_list (pv 2) pe_int (fun _ _ => rfl)) pa_nil)) pa_nil)) (pe_ix ix_list (pv 2) pe_int (fun _ _ => rfl)) (nomark _)))))) (pss_one (ps_ret pe_bl)) pss_nil) (pss_cons (ps_set (i := 3) scLawPercentRight.nd rfl (.inl rfl) (pe_callTy call_int_str (by rfl) b.int b_int (pa_cons (pe_ix ix_list (pv 2) pe_int (fun _ _ => rfl)) pa_nil))) (pss_one (ps_ret (pe_chain op_le op_lt (pe_op op_mul (pv 3) (pe_ix ix_tup (pv 0) pe_int (fun _ _ => rfl))) (pe_op op_mul (pe_ix ix_tup (pv 0) pe_int (fun _ _ => rfl)) pe_int) (pe_op op_mul (pe_op op_add (pv 3) pe_int) (pe_ix ix_tup (pv 0) pe_int (fun _ _ => rfl))))))))), ?_⟩
  refine ⟨_, rfl, ⟨_, rfl⟩, _, _, rfl, rfl, by decide +kernel, ?_, ?_⟩
  · exact Nat.le_trans (show _ ≤ 1002 by have := pct_len p0 p1; omega) (by decide)
  rw [e1]
  intro r hr1
  have s1 := Sm.new (o := .lst ([(toString (x * 100 / y) : Str), "in", "100"].map V.str)) hr1
  refine ⟨_, rfl, r, _, rfl, .inl (SqL.of upd_same), rfl, _, rfl, iteF ?_⟩
  refine ⟨_, rfl, 1, rfl, r, _, rfl, SqL.of upd_same, fun p1' np1 => ⟨by show 2 ≤ sizeLine; decide, fun p2 np2 => ?_⟩⟩
  have s2 := s1.trans (Sm.new (o := .lst [V.str "in", V.str "100"]) np1)
  have ne : p1' ≠ p2 := fun z => by rw [← z, upd_same] at np2; cases np2
  have e : cutV (([(toString (x * 100 / y) : Str), "in", "100"] : List Str).map V.str) (some 1) none = [V.str "in", V.str "100"] := rfl
  rw [e] at np2 ⊢
  refine ⟨.list [.str "in", .str "100"], .list [.str "in", .str "100"], .lst (SqL.of (by rw [upd_ne ne]; exact upd_same)) (.cons (.str _) (.cons (.str _) .nil)), .lst (SqL.of upd_same) (.cons (.str _) (.cons (.str _) .nil)), by decide +kernel, by decide +kernel, _, rfl, ?_⟩
  rw [show PyData.eqv (.list [.str "in", .str "100"]) (.list [.str "in", .str "100"]) = true by decide +kernel]
  refine iteF ?_
  have s3 := s2.trans (Sm.new (o := .lst [V.str "in", V.str "100"]) np2)
  have hr3 := (((Sm.new (o := .lst [V.str "in", V.str "100"]) np1).trans (Sm.new (o := .lst [V.str "in", V.str "100"]) np2)).lst upd_same)
  have a0 : atI (([(toString (x * 100 / y) : Str), "in", "100"] : List Str).map V.str) 0 = some (.str (toString (x * 100 / y) : Str)) := atI_nat (j := 0) rfl
  refine ⟨_, rfl, r, _, _, _, rfl, rfl, SqL.of hr3, a0, _, _, rfl, e2, e3, _, rfl, small_log p0 p1, _, rfl, r, _, _, _, rfl, rfl, SqL.of hr3, a0, rfl, _, rfl, ?_⟩
  rw [decide_eq_true (p := V.str (toString (x * 100 / y) : Str) = V.str (toString (x * 100 / y) : Str)) rfl]
  refine iteF ⟨_, rfl, r, _, _, _, rfl, rfl, SqL.of hr3, a0, _, _, rfl, e2, e3, ?_⟩
  refine ⟨_, rfl, _, rfl, a, _, _, _, rfl, rfl, SqT.of (s3.tup hp), at1, _, _, rfl, rfl, .inl ⟨by omega, by omega⟩, _, rfl, a, _, _, _, rfl, rfl, SqT.of (s3.tup hp), at0, _, _, rfl, rfl, .inr ⟨by decide, by decide⟩, _, _, rfl, rfl, _, rfl, ?_⟩
  rw [decide_eq_true f0]
  refine iteT ⟨_, rfl, _, _, rfl, rfl, _, rfl, a, _, _, _, rfl, rfl, SqT.of (s3.tup hp), at1, _, _, rfl, rfl, .inl ⟨by omega, by omega⟩, _, _, rfl, rfl, ?_⟩
  show Q (V.bl (decide (x * 100 < (x * 100 / y + 1) * y))) _
  rw [decide_eq_true f1]
  exact q _ s3
/-! ## the law -/
theorem pairDp {H : Hp} {p : Addr} {x y : Int} (h : H p = some (.tup [.int x, .int y])) : Dp K H (.ref p) (.tuple [.int x, .int y]) := .tup (SqT.of h) (.cons (.int _) (.cons (.int _) .nil))
theorem pair_shaped (x y : Int) : SeqAt.shaped (.tuple [.int x, .int y]) = true := rfl
theorem share_full {x y m : Int} (so : ShOk x y) (m1 : 1 ≤ m) : decide (V.str (rowS (x * m / y) m) = V.str (repS 35 m.toNat)) = (decide (x = 1) && decide (y = 1)) := by
  obtain ⟨p0, p1⟩ := part_le so (show 0 ≤ m by omega)
  obtain ⟨f0, _⟩ := floor_le (m := m) so
  have y1 := so.y1
  rw [← Bool.decide_and]
  refine decide_eq_decide.mpr ⟨fun e => ?_, fun ⟨ex, ey⟩ => ?_⟩
  · have e1 := (rowS_full p0 p1).mp (V.str.inj e)
    rw [e1] at f0
    have h : y ≤ x := by
      rw [Int.mul_comm x m] at f0
      exact Int.le_of_mul_le_mul_left f0 (by omega)
    have exy : x = y := Int.le_antisymm so.xy h
    have g := so.g
    rw [exy, Nat.gcd_self] at g
    omega
  · subst ex ey
    rw [Int.one_mul, Int.ediv_one]
    exact congrArg V.str ((rowS_full (by omega) (Int.le_refl m)).mpr rfl)
theorem part_mono {x y z u : Int} (so : ShOk x y) (su : ShOk z u) (le : x * u ≤ z * y) : x * 20 / y ≤ z * 20 / u := by
  have y1 := so.y1
  have u1 := su.y1
  rw [Int.le_ediv_iff_mul_le (by omega)]
  have h := (floor_le (m := 20) so).1
  have h2 : x * 20 / y * y * u ≤ x * 20 * u := Int.mul_le_mul_of_nonneg_right h (by omega)
  have h3 : x * 20 * u ≤ z * 20 * y := by
    rw [Int.mul_right_comm x 20 u, Int.mul_right_comm z 20 y]
    omega
  have h4 : x * 20 / y * u * y ≤ z * 20 * y := by
    rw [Int.mul_right_comm]
    omega
  exact Int.le_of_mul_le_mul_right h4 (by omega)
theorem pair_eqv (x y z w : Int) : PyData.eqv (.tuple [.int x, .int y]) (.tuple [.int z, .int w]) = (decide (x = z) && decide (y = w)) := by
  show ((x == z) && ((y == w) && true)) = _
  rw [Bool.and_true]
  rfl
def spLaw (K : PySem.W.Frag) : Sp := fun vs H Q _ => ∃ (a : Addr) (ns : List Int), vs = [.ref a] ∧ SqL K H a (ns.map V.int) ∧ ns.length ≤ 63 ∧ ∀ H', Q (.bl true) H'
theorem ok_law {f f0 f1 f2 f3 f4 f5 f6 g1 g2 g3 g4 cW : Addr} {fd fd0 fd1 fd2 fd3 fd4 fd5 fd6 gd1 gd2 gd3 gd4 : FuncData} {tS : Tok} (D : Fun K "law" "law" sLaw f fd) (DBar : Gd K mg "bar" sBar [.int 20] f5 fd5) (DPercent : Gf K mg "percent" sPercent ["share"] f6 fd6)
    (DIsWithinWhole : Gf K mg "is_within_whole" sIsWithinWhole ["value"] f0 fd0) (DIsShare : Gf K mg "is_share" sIsShare ["value"] f1 fd1) (DIsLess : Gf K mg "is_less" sIsLess ["one", "other"] f2 fd2)
    (DIsNumber : Gd K mg "is_number" sIsNumber [.non] f3 fd3) (DRoundedDown : Gf K mg "rounded_down" sRoundedDown ["share", "many"] f4 fd4) (DLawCellAt : Gf K mg "_law_cell_at" sLawCellAt ["_law_script", "_law_k"] g1 gd1) (DLawShare : Gf K mg "_law_share" sLawShare ["_law_cell"] g2 gd2)
    (DLawBarRight : Gf K mg "_law_bar_right" sLawBarRight ["_law_one_share", "_law_many", "_law_got"] g3 gd3) (DLawPercentRight : Gf K mg "_law_percent_right" sLawPercentRight ["_law_one_share", "_law_got"] g4 gd4)
    (b : Bi mg) (hg : mg "gcd" = some (.builtin "math.gcd")) (hW : mg "WHOLE" = some (.ref cW)) (kW : ∀ H, SqT K H cW [.int 1, .int 1]) (hS : mg "MOST_SIGNS" = some (.int 100 tS)) :
    FnOk P w K mg base CX0 8 f fd ["_law_script"] (spLaw K) := by
  have GBar : FnOk P w K mg base CX0 4 f5 fd5 ["share", "many"] spBar := ok_bar DBar DIsWithinWhole DIsShare DIsLess DIsNumber DRoundedDown b hg hW kW hS
  have GPercent : FnOk P w K mg base CX0 4 f6 fd6 ["share"] spPercent := ok_percent DPercent DIsWithinWhole DIsShare DIsLess DIsNumber DRoundedDown b hg hW kW
  have GLawCellAt : FnOk P w K mg base CX0 6 g1 gd1 ["_law_script", "_law_k"] (spCell K) := ok_cell DLawCellAt b
  have GLawShare : FnOk P w K mg base CX0 1 g2 gd2 ["_law_cell"] spLawShare := ok_lawShare DLawShare b
  have GLawBarRight : FnOk P w K mg base CX0 1 g3 gd3 ["_law_one_share", "_law_many", "_law_got"] spBarRight := ok_barRight DLawBarRight b
  have GLawPercentRight : FnOk P w K mg base CX0 1 g4 gd4 ["_law_one_share", "_law_got"] spPctRight := ok_pctRight DLawPercentRight b
  obtain ⟨tb, hb1⟩ := bar_b1 DBar.F
  refine D.ok scLaw (fun vs H Q E h => ?_) (fun cdv A outer s H vs Q E hr h => ?_)
  · obtain ⟨a, ns, rfl, _⟩ := h
    rfl
  obtain ⟨a, ns, rfl, hL, h63, q⟩ := h
  refine ⟨_, (pss_cons (ps_set (i := 1) scLaw.nd rfl (.inl rfl) (pe_op op_cat (pe_lc (own := [("_law_k", 6)]) (g := (gName 6)) rfl scLaw.nd (pi_range1 (by rfl) b.range (pa_cons pe_int pa_nil)) (blkOk_by (own := [("_law_k", 6)]) (N := ["_law_script", "_law_shares", "_law_one_share", "_law_many", "_law_one", "_law_other", "_law_k"]) (sc := defScope sLaw) (by decide +kernel)) (fun _ _ _ _ _ => (pg_name (i := 6) scLaw.nd rfl (.inl rfl))) (fun _ _ _ _ _ => pts_nil) (fun _ _ _ _ _ => (pe_call GLawShare (hr.mono (by decide)) (by rfl) DLawShare.m DLawShare.kp DLawShare.b .nil pass0 (pa_cons (pe_call GLawCellAt (hr.mono (by decide)) (by rfl) DLawCellAt.m DLawCellAt.kp DLawCellAt.b .nil pass0 (pa_cons (pv 0) (pa_cons (pv 6) pa_nil))) pa_nil)))) (pe_lst (pa_cons (pe_tup (pa_cons pe_int (pa_cons pe_int pa_nil))) (pa_cons (pe_tup (pa_cons pe_int (pa_cons pe_int pa_nil))) (pa_cons (pe_tup (pa_cons pe_int (pa_cons pe_int pa_nil))) (pa_cons (pe_tup (pa_cons pe_int (pa_cons pe_int pa_nil))) pa_nil))))))) (pss_cons (ps_for PassesOwn.never rfl (pi_list (pv 1)) (pg_name (i := 2) scLaw.nd rfl (.inl rfl)) (pss_cons (ps_for PassesOwn.never rfl (pi_list (pe_lst (pa_cons pe_int (pa_cons pe_int (pa_cons (pe_op op_add pe_int (pe_op op_mod (pe_call GLawCellAt (hr.mono (by decide)) (by rfl) DLawCellAt.m DLawCellAt.kp DLawCellAt.b .nil pass0 (pa_cons (pv 0) (pa_cons pe_int pa_nil))) pe_int)) (pa_cons pe_int (pa_cons pe_int pa_nil))))))) (pg_name (i := 3) scLaw.nd rfl (.inl rfl)) (pss_cons (ps_if (pt_not (pt_val (pe_call GLawBarRight (hr.mono (by decide)) (by rfl) DLawBarRight.m DLawBarRight.kp DLawBarRight.b .nil pass0 (pa_cons (pv 2) (pa_cons (pv 3) (pa_cons (pe_call GBar (hr.mono (by decide)) (by rfl) DBar.m DBar.kp (bar_b2 DBar.F) .nil pass0 (pa_cons (pv 2) (pa_cons (pv 3) pa_nil))) pa_nil)))))) (pss_one (ps_ret pe_bl)) pss_nil) (pss_one (ps_if (pt_cmpR op_ne (pe_cmpR op_eq (pe_call GBar (hr.mono (by decide)) (by rfl) DBar.m DBar.kp (bar_b2 DBar.F) .nil pass0 (pa_cons (pv 2) (pa_cons (pv 3) pa_nil))) (pe_op op_mulS pe_str (pv 3)) (nomark _)) (pe_cmpR (op_eqD (hu64 hr)) (pv 2) (pe_tup (pa_cons pe_int (pa_cons pe_int pa_nil))) (nomark _)) (nomark _)) (pss_one (ps_ret pe_bl)) pss_nil)))) (pss_one (ps_if (PW.pt (pw_or (pt_cmpR op_ne (pe_call GBar (hr.mono (by decide)) (by rfl) DBar.m DBar.kp hb1 (.cons (show RelV (.int 20) (.int 20 tb) from ⟨tb, rfl⟩) .nil) pass0 (pa_cons (pv 2) pa_nil)) (pe_call GBar (hr.mono (by decide)) (by rfl) DBar.m DBar.kp (bar_b2 DBar.F) .nil pass0 (pa_cons (pv 2) (pa_cons pe_int pa_nil))) (nomark _)) (pw_or1 (pt_not (pt_val (pe_call GLawPercentRight (hr.mono (by decide)) (by rfl) DLawPercentRight.m DLawPercentRight.kp DLawPercentRight.b .nil pass0 (pa_cons (pv 2) (pa_cons (pe_call GPercent (hr.mono (by decide)) (by rfl) DPercent.m DPercent.kp DPercent.b .nil pass0 (pa_cons (pv 2) pa_nil)) pa_nil)))))))) (pss_one (ps_ret pe_bl)) pss_nil)))) (pss_cons (ps_for PassesOwn.never rfl (pi_list (pv 1)) (pg_name (i := 4) scLaw.nd rfl (.inl rfl)) (pss_one (ps_for PassesOwn.never rfl (pi_list (pv 1)) (pg_name (i := 5) scLaw.nd rfl (.inl rfl)) (pss_one (ps_if (PW.pt (pw_and (pt_cmpR op_le (pe_op op_mul (pe_ix ix_tup (pv 4) pe_int (fun _ _ => rfl)) (pe_ix ix_tup (pv 5) pe_int (fun _ _ => rfl))) (pe_op op_mul (pe_ix ix_tup (pv 5) pe_int (fun _ _ => rfl)) (pe_ix ix_tup (pv 4) pe_int (fun _ _ => rfl))) (nomark _)) (pw_and1 (pt_cmpR op_gt (pe_m1 PySem.F.slot_str_count PySem.F.type_str_count mt_count (pe_call GBar (hr.mono (by decide)) (by rfl) DBar.m DBar.kp hb1 (.cons (show RelV (.int 20) (.int 20 tb) from ⟨tb, rfl⟩) .nil) pass0 (pa_cons (pv 4) pa_nil)) pe_str) (pe_m1 PySem.F.slot_str_count PySem.F.type_str_count mt_count (pe_call GBar (hr.mono (by decide)) (by rfl) DBar.m DBar.kp hb1 (.cons (show RelV (.int 20) (.int 20 tb) from ⟨tb, rfl⟩) .nil) pass0 (pa_cons (pv 5) pa_nil)) pe_str) (nomark _))))) (pss_one (ps_ret pe_bl)) pss_nil))))) (pss_one (ps_ret (pe_and (pe_cmpR op_eq (pe_call GPercent (hr.mono (by decide)) (by rfl) DPercent.m DPercent.kp DPercent.b .nil pass0 (pa_cons (pe_tup (pa_cons pe_int (pa_cons pe_int pa_nil))) pa_nil)) pe_str (nomark _)) (pe_one (pe_cmpR op_eq (pe_call GPercent (hr.mono (by decide)) (by rfl) DPercent.m DPercent.kp DPercent.b .nil pass0 (pa_cons (pe_tup (pa_cons pe_int (pa_cons pe_int pa_nil))) pa_nil)) pe_str (nomark _))))))))), ?_⟩
  refine ⟨6, rfl, by decide, by decide, fun p hp => lc_range (lo := 0) (n := 6) (fun i H2 => ∃ xs : List V, Sm H H2 ∧ H2 p = some (.lst xs) ∧ xs.length = i ∧ ∀ v ∈ xs, ShAt H2 v) ⟨[], Sm.new hp, upd_same, rfl, fun v hv => by cases hv⟩ ?_ ?_⟩
  · rintro i H2 hi ⟨xs, s2, hx, lx, ax⟩
    refine ⟨rfl, ?_⟩
    unfold tYes
    refine iteT ⟨_, rfl, _, rfl, a, _, ns, rfl, s2.seqL hL, h63, by omega, fun c H3 s3 => ⟨c, rfl, fun v H4 s4 hv => ?_⟩⟩
    have hx4 := (s3.trans s4).lst hx
    refine ⟨xs, hx4, small1000 (by omega), xs ++ [v], ((s2.trans s3).trans s4).put hp, upd_same, by rw [List.length_append, lx]; rfl, fun v' hv' => ?_⟩
    rcases List.mem_append.mp hv' with h | h
    · exact ((ax v' h).sm (s3.trans s4)).updL hx4
    · rw [List.mem_singleton.mp h]
      exact hv.updL hx4
  rintro H2 ⟨xs, s2, hx, lx, ax⟩
  refine ⟨by show 2 ≤ sizeLine; decide, fun q1 n1 => ⟨by show 2 ≤ sizeLine; decide, fun q2 n2 => ⟨by show 2 ≤ sizeLine; decide, fun q3 n3 => ⟨by show 2 ≤ sizeLine; decide, fun q4 n4 => ⟨by show 4 ≤ sizeLine; decide, fun q5 n5 => ?_⟩⟩⟩⟩⟩
  have s21 := Sm.new (o := .tup [V.int 0, V.int 1]) n1
  have s22 := Sm.new (o := .tup [V.int 1, V.int 1]) n2
  have s23 := Sm.new (o := .tup [V.int 1, V.int 3]) n3
  have s24 := Sm.new (o := .tup [V.int 99, V.int 100]) n4
  have s25 := Sm.new (o := .lst [V.ref q1, V.ref q2, V.ref q3, V.ref q4]) n5
  have s35 := (s22.trans s23).trans (s24.trans s25)
  have hx5 := (s21.trans s35).lst hx
  refine ⟨p, q5, _, _, rfl, rfl, hx5, upd_same, small1000' (by rw [lx]; show 6 + 4 ≤ 1000; decide), fun S nS => ?_⟩
  have s26 := Sm.new (o := .lst (xs ++ [V.ref q1, V.ref q2, V.ref q3, V.ref q4])) nS
  generalize hH : upd _ S _ = H6 at s26 ⊢
  have hS6 : H6 S = some (.lst (xs ++ [V.ref q1, V.ref q2, V.ref q3, V.ref q4])) := by rw [← hH]; exact upd_same
  have sAll : Sm H H6 := s2.trans ((s21.trans s35).trans s26)
  have all6 : ∀ v ∈ xs ++ [V.ref q1, V.ref q2, V.ref q3, V.ref q4], ShAt H6 v := fun v hv => by
    rcases List.mem_append.mp hv with h | h
    · exact (ax v h).sm ((s21.trans s35).trans s26)
    · simp only [List.mem_cons, List.not_mem_nil, or_false] at h
      rcases h with rfl | rfl | rfl | rfl
      · exact ⟨q1, 0, 1, rfl, (s35.trans s26).tup upd_same, ⟨by decide, by decide, by decide, by decide, by decide⟩⟩
      · exact ⟨q2, 1, 1, rfl, ((s23.trans (s24.trans s25)).trans s26).tup upd_same, ⟨by decide, by decide, by decide, by decide, by decide⟩⟩
      · exact ⟨q3, 1, 3, rfl, ((s24.trans s25).trans s26).tup upd_same, ⟨by decide, by decide, by decide, by decide, by decide⟩⟩
      · exact ⟨q4, 99, 100, rfl, (s25.trans s26).tup upd_same, ⟨by decide, by decide, by decide, by decide, by decide⟩⟩
  generalize hX : xs ++ [V.ref q1, V.ref q2, V.ref q3, V.ref q4] = X at hS6 all6
  refine ⟨_, rfl, S, rfl, ⟨_, SqL.of hS6⟩, for_list (K := K) (a := S) (xs := X)
    (fun i σ H2 => ∃ v2 v3 v6 : Option V, σ = [some (.ref a), some (.ref S), v2, v3, none, none, v6] ∧ Sm H6 H2) ⟨none, none, none, rfl, Sm.refl _⟩ (fun i σ H2 _ hh => ?_) ?_ ?_⟩
  · obtain ⟨_, _, _, _, s7⟩ := hh
    exact s7.seqL (SqL.of hS6)
  · rintro i v σ H7 hv ⟨v2, v3, v6, rfl, s7⟩
    obtain ⟨sp, x, y, rfl, hxy, so⟩ := (all6 v (List.mem_of_getElem? hv)).sm s7
    refine ⟨_, rfl, a, 6, ns, rfl, (sAll.trans s7).seqL hL, h63, by decide, fun c H8 s8 => ⟨_, _, rfl, rfl, by show (0 : Int) < 100; decide, _, _, rfl, rfl, by show 5 ≤ sizeLine; decide, fun M nM => ?_⟩⟩
    have c0 := Int.emod_nonneg c (show (100 : Int) ≠ 0 by decide)
    have c1 := Int.emod_lt_of_pos c (show (0 : Int) < 100 by decide)
    have ms : ∀ v ∈ [V.int 1, V.int 2, V.int (1 + c % 100), V.int 99, V.int 100], ∃ m : Int, v = .int m ∧ 1 ≤ m ∧ m ≤ 100 := fun v hv => by
      simp only [List.mem_cons, List.not_mem_nil, or_false] at hv
      rcases hv with rfl | rfl | rfl | rfl | rfl
      · exact ⟨1, rfl, by decide, by decide⟩
      · exact ⟨2, rfl, by decide, by decide⟩
      · exact ⟨_, rfl, by omega, by omega⟩
      · exact ⟨99, rfl, by decide, by decide⟩
      · exact ⟨100, rfl, by decide, by decide⟩
    have s9 := Sm.new (o := .lst [V.int 1, V.int 2, V.int (1 + c % 100), V.int 99, V.int 100]) nM
    have hM9 : upd H8 M (.lst [V.int 1, V.int 2, V.int (1 + c % 100), V.int 99, V.int 100]) M = some (.lst [V.int 1, V.int 2, V.int (1 + c % 100), V.int 99, V.int 100]) := upd_same
    have hxy9 := (s8.trans s9).tup hxy
    have s69 := (s7.trans s8).trans s9
    generalize upd H8 M (.lst [V.int 1, V.int 2, V.int (1 + c % 100), V.int 99, V.int 100]) = H9 at s69 hM9 hxy9 ⊢
    refine ⟨M, rfl, ⟨_, SqL.of hM9⟩, for_list (K := K) (a := M) (xs := [V.int 1, V.int 2, V.int (1 + c % 100), V.int 99, V.int 100])
      (fun i σ H2 => ∃ v3 : Option V, σ = [some (.ref a), some (.ref S), some (.ref sp), v3, none, none, v6] ∧ Sm H9 H2) ⟨v3, rfl, Sm.refl _⟩ (fun i σ H2 _ hh => ?_) ?_ ?_⟩
    · obtain ⟨_, _, s⟩ := hh
      exact s.seqL (SqL.of hM9)
    · rintro j v σ H10 hv ⟨v3, rfl, s10⟩
      obtain ⟨m, rfl, m1, m2⟩ := ms v (List.mem_of_getElem? hv)
      have hxy10 := s10.tup hxy9
      obtain ⟨p0, p1⟩ := part_le so (show 0 ≤ m by omega)
      refine ⟨_, rfl, _, rfl, _, rfl, _, rfl, sp, x, y, m, rfl, hxy10, so, m1, m2, sp, x, y, m, rfl, hxy10, so, m1, m2, true, rfl, iteF ?_⟩
      refine ⟨_, rfl, _, rfl, sp, x, y, m, rfl, hxy10, so, m1, m2, _, rfl, 35, m, by rfl, rfl, by omega, by omega, rfl, _, rfl, by show 2 ≤ sizeLine; decide, fun t nt => ?_⟩
      have s11 := Sm.new (o := .tup [V.int 1, V.int 1]) nt
      refine ⟨_, _, pairDp (s11.tup hxy10), pairDp upd_same, pair_shaped x y, pair_shaped 1 1, rfl, _, rfl, ?_⟩
      rw [pair_eqv, decide_eq_true (congrArg V.bl (share_full so m1))]
      exact iteF ⟨_, rfl, s10.trans s11⟩
    · rintro σ H10 ⟨v3, rfl, s10⟩
      have hxy10 := s10.tup hxy9
      obtain ⟨p0, p1⟩ := part_le so (show 0 ≤ 20 by omega)
      refine ⟨_, rfl, sp, x, y, 20, rfl, hxy10, so, by decide, by decide, _, rfl, sp, x, y, 20, rfl, hxy10, so, by decide, by decide, rfl, _, rfl, ?_⟩
      rw [decide_eq_true (p := V.str (rowS (x * 20 / y) 20) = V.str (rowS (x * 20 / y) 20)) rfl]
      refine iteF ⟨_, rfl, _, rfl, sp, x, y, rfl, hxy10, so, sp, x, y, rfl, hxy10, so, fun H11 s11 => ⟨true, rfl, iteF ?_⟩⟩
      exact ⟨_, _, _, rfl, (s69.trans s10).trans s11⟩
  · rintro σ H7 ⟨v2, v3, v6, rfl, s7⟩
    refine ⟨_, rfl, S, rfl, ⟨_, SqL.of (s7.lst hS6)⟩, for_list (K := K) (a := S) (xs := X)
      (fun i σ H2 => ∃ v4 v5 : Option V, σ = [some (.ref a), some (.ref S), v2, v3, v4, v5, v6] ∧ Sm H7 H2) ⟨none, none, rfl, Sm.refl _⟩ (fun i σ H2 _ hh => ?_) ?_ ?_⟩
    · obtain ⟨_, _, _, s8⟩ := hh
      exact (s7.trans s8).seqL (SqL.of hS6)
    · rintro i v σ H8 hv ⟨v4, v5, rfl, s8⟩
      obtain ⟨sp, x, y, rfl, hxy, so⟩ := (all6 v (List.mem_of_getElem? hv)).sm (s7.trans s8)
      refine ⟨_, rfl, S, rfl, ⟨_, SqL.of ((s7.trans s8).lst hS6)⟩, for_list (K := K) (a := S) (xs := X)
        (fun i σ H2 => ∃ v5 : Option V, σ = [some (.ref a), some (.ref S), v2, v3, some (.ref sp), v5, v6] ∧ Sm H8 H2) ⟨v5, rfl, Sm.refl _⟩ (fun i σ H2 _ hh => ?_) ?_ ?_⟩
      · obtain ⟨_, _, s9⟩ := hh
        exact ((s7.trans s8).trans s9).seqL (SqL.of hS6)
      · rintro j v' σ H9 hv' ⟨v5', rfl, s9⟩
        obtain ⟨sq, z, u, rfl, hzu, su⟩ := (all6 v' (List.mem_of_getElem? hv')).sm ((s7.trans s8).trans s9)
        have hxy9 := s9.tup hxy
        have := so.x0; have := so.xy; have := so.y1; have := so.yz; have := su.x0; have := su.xy; have := su.y1; have := su.yz
        refine ⟨_, rfl, sp, _, _, _, rfl, rfl, SqT.of hxy9, at0, _, rfl, sq, _, _, _, rfl, rfl, SqT.of hzu, at1, _, _, rfl, rfl, .inl ⟨by omega, by omega⟩, _, rfl, sq, _, _, _, rfl, rfl, SqT.of hzu, at0, _, rfl, sp, _, _, _, rfl, rfl, SqT.of hxy9, at1, _, _, rfl, rfl, .inl ⟨by omega, by omega⟩, _, _, rfl, rfl, _, rfl, ?_⟩
        by_cases le : x * u ≤ z * y
        · rw [decide_eq_true le]
          obtain ⟨p0, p1⟩ := part_le so (show 0 ≤ 20 by omega)
          obtain ⟨p2, p3⟩ := part_le su (show 0 ≤ 20 by omega)
          refine iteT ⟨_, rfl, sp, x, y, 20, rfl, hxy9, so, by decide, by decide, ⟨_, rfl⟩, _, _, rfl, rfl, _, rfl, sq, z, u, 20, rfl, hzu, su, by decide, by decide, ⟨_, rfl⟩, _, _, rfl, rfl, ?_⟩
          rw [rowS_count p0, rowS_count p2]
          refine ⟨_, _, rfl, rfl, _, rfl, ?_⟩
          rw [decide_eq_false (by have := part_mono so su le; omega)]
          exact iteF ⟨_, rfl, s9⟩
        · rw [decide_eq_false le]
          exact iteF ⟨_, rfl, s9⟩
      · rintro σ H9 ⟨v5', rfl, s9⟩
        exact ⟨_, _, rfl, s8.trans s9⟩
    · rintro σ H8 ⟨v4, v5, rfl, s8⟩
      have ok11 : ShOk 1 1 := ⟨by decide, by decide, by decide, by decide, by decide⟩
      have ok01 : ShOk 0 1 := ⟨by decide, by decide, by decide, by decide, by decide⟩
      refine ⟨by show 2 ≤ sizeLine; decide, fun t nt => ⟨t, 1, 1, rfl, upd_same, ok11, rfl, ?_⟩⟩
      rw [show (V.str (pctS (1 * 100 / 1)) : V) = V.str "100 in 100" by decide +kernel, decide_eq_true rfl]
      refine ⟨true, rfl, iteT ⟨by show 2 ≤ sizeLine; decide, fun t2 nt2 => ⟨t2, 0, 1, rfl, upd_same, ok01, rfl, ?_⟩⟩⟩
      rw [show (V.str (pctS (0 * 100 / 1)) : V) = V.str "0 in 100" by decide +kernel, decide_eq_true rfl]
      exact q _
end
end Hf
set_option Elab.async false
set_option maxRecDepth 100000
set_option maxHeartbeats 8000000
namespace Hf
open PySem L2
theorem all_mk {l : PySem.W.OpenLaw} {w : World} {K : PySem.W.Frag} {h : Heap} {mg : Str → Option Value} {fa : Addr} (X : K.In h) (G : h.Ns mainGlobals mg) (hfa : mg "law" = some (.ref fa))
    {q0 : Addr} {od0 an0 : Option Addr} {sl0 : Array (Option Value)} {oc0 kV0 dc0 pm0 ct0 : Value}
    {cd0 : Value}
    {dT0 : Addr} {oT0 : Value} {dd0 : Option Addr} {nT0 : Nat} {slT0 : Array (Option Value)}
    {q1 : Addr} {od1 an1 : Option Addr} {sl1 : Array (Option Value)} {oc1 kV1 dc1 pm1 ct1 : Value}
    {cd1 : Value}
    {q2 : Addr} {od2 an2 : Option Addr} {sl2 : Array (Option Value)} {oc2 kV2 dc2 pm2 ct2 : Value}
    {cd2 : Value}
    {q3 : Addr} {od3 an3 : Option Addr} {sl3 : Array (Option Value)} {oc3 kV3 dc3 pm3 ct3 : Value}
    {cd3 : Value}
    {dT3 : Addr} {oT3 : Value} {dd3 : Option Addr} {nT3 : Nat} {slT3 : Array (Option Value)}
    {td3_0 : Tok}
    {q4 : Addr} {od4 an4 : Option Addr} {sl4 : Array (Option Value)} {oc4 kV4 dc4 pm4 ct4 : Value}
    {cd4 : Value}
    {q5 : Addr} {od5 an5 : Option Addr} {sl5 : Array (Option Value)} {oc5 kV5 dc5 pm5 ct5 : Value}
    {cd5 : Value}
    {q6 : Addr} {od6 an6 : Option Addr} {sl6 : Array (Option Value)} {oc6 kV6 dc6 pm6 ct6 : Value}
    {cd6 : Value}
    {q7 : Addr} {od7 an7 : Option Addr} {sl7 : Array (Option Value)} {oc7 kV7 dc7 pm7 ct7 : Value}
    {cd7 : Value}
    {q8 : Addr} {od8 an8 : Option Addr} {sl8 : Array (Option Value)} {oc8 kV8 dc8 pm8 ct8 : Value}
    {cd8 : Value}
    {q9 : Addr} {od9 an9 : Option Addr} {sl9 : Array (Option Value)} {oc9 kV9 dc9 pm9 ct9 : Value}
    {cd9 : Value}
    {q10 : Addr} {od10 an10 : Option Addr} {sl10 : Array (Option Value)} {oc10 kV10 dc10 pm10 ct10 : Value}
    {cd10 : Value}
    {q11 : Addr} {od11 an11 : Option Addr} {sl11 : Array (Option Value)} {oc11 kV11 dc11 pm11 ct11 : Value}
    {cd11 : Value}
    {tk_MOST_SIGNS : Tok}
    {cT_WHOLE : Addr} {oT_WHOLE : Option Addr} {nT_WHOLE : Nat} {sT_WHOLE : Array (Option Value)} {tt_WHOLE_0 tt_WHOLE_1 : Tok}
    (a0 : PySem.W.nsIn K mainGlobals "is_number" = some (some (.ref q0)))
    (l0 : K.lookup q0 = some ⟨oc0, od0, .func (PySem.W.fnOf "is_number" "is_number" (defArgs sIsNumber) (defBody sIsNumber) (defScope sIsNumber) (.ref dT0) kV0 dc0 pm0 an0 cd0 ct0), sl0⟩)
    (c0 : PySem.W.codeIn K cd0 "is_number" = true)
    (k0 : PySem.W.keepIn K (.ref q0) = true)
    (lT0 : K.lookup dT0 = some ⟨oT0, dd0, .seq ([.none] : List Value).toArray nT0, slT0⟩)
    (a1 : PySem.W.nsIn K mainGlobals "is_share" = some (some (.ref q1)))
    (l1 : K.lookup q1 = some ⟨oc1, od1, .func (PySem.W.fnOf "is_share" "is_share" (defArgs sIsShare) (defBody sIsShare) (defScope sIsShare) .none kV1 dc1 pm1 an1 cd1 ct1), sl1⟩)
    (c1 : PySem.W.codeIn K cd1 "is_share" = true)
    (k1 : PySem.W.keepIn K (.ref q1) = true)
    (a2 : PySem.W.nsIn K mainGlobals "is_less" = some (some (.ref q2)))
    (l2 : K.lookup q2 = some ⟨oc2, od2, .func (PySem.W.fnOf "is_less" "is_less" (defArgs sIsLess) (defBody sIsLess) (defScope sIsLess) .none kV2 dc2 pm2 an2 cd2 ct2), sl2⟩)
    (c2 : PySem.W.codeIn K cd2 "is_less" = true)
    (k2 : PySem.W.keepIn K (.ref q2) = true)
    (a3 : PySem.W.nsIn K mainGlobals "bar" = some (some (.ref q3)))
    (l3 : K.lookup q3 = some ⟨oc3, od3, .func (PySem.W.fnOf "bar" "bar" (defArgs sBar) (defBody sBar) (defScope sBar) (.ref dT3) kV3 dc3 pm3 an3 cd3 ct3), sl3⟩)
    (c3 : PySem.W.codeIn K cd3 "bar" = true)
    (k3 : PySem.W.keepIn K (.ref q3) = true)
    (lT3 : K.lookup dT3 = some ⟨oT3, dd3, .seq ([.int 20 td3_0] : List Value).toArray nT3, slT3⟩)
    (a4 : PySem.W.nsIn K mainGlobals "percent" = some (some (.ref q4)))
    (l4 : K.lookup q4 = some ⟨oc4, od4, .func (PySem.W.fnOf "percent" "percent" (defArgs sPercent) (defBody sPercent) (defScope sPercent) .none kV4 dc4 pm4 an4 cd4 ct4), sl4⟩)
    (c4 : PySem.W.codeIn K cd4 "percent" = true)
    (k4 : PySem.W.keepIn K (.ref q4) = true)
    (a5 : PySem.W.nsIn K mainGlobals "rounded_down" = some (some (.ref q5)))
    (l5 : K.lookup q5 = some ⟨oc5, od5, .func (PySem.W.fnOf "rounded_down" "rounded_down" (defArgs sRoundedDown) (defBody sRoundedDown) (defScope sRoundedDown) .none kV5 dc5 pm5 an5 cd5 ct5), sl5⟩)
    (c5 : PySem.W.codeIn K cd5 "rounded_down" = true)
    (k5 : PySem.W.keepIn K (.ref q5) = true)
    (a6 : PySem.W.nsIn K mainGlobals "is_within_whole" = some (some (.ref q6)))
    (l6 : K.lookup q6 = some ⟨oc6, od6, .func (PySem.W.fnOf "is_within_whole" "is_within_whole" (defArgs sIsWithinWhole) (defBody sIsWithinWhole) (defScope sIsWithinWhole) .none kV6 dc6 pm6 an6 cd6 ct6), sl6⟩)
    (c6 : PySem.W.codeIn K cd6 "is_within_whole" = true)
    (k6 : PySem.W.keepIn K (.ref q6) = true)
    (a7 : PySem.W.nsIn K mainGlobals "_law_cell_at" = some (some (.ref q7)))
    (l7 : K.lookup q7 = some ⟨oc7, od7, .func (PySem.W.fnOf "_law_cell_at" "_law_cell_at" (defArgs sLawCellAt) (defBody sLawCellAt) (defScope sLawCellAt) .none kV7 dc7 pm7 an7 cd7 ct7), sl7⟩)
    (c7 : PySem.W.codeIn K cd7 "_law_cell_at" = true)
    (k7 : PySem.W.keepIn K (.ref q7) = true)
    (a8 : PySem.W.nsIn K mainGlobals "_law_share" = some (some (.ref q8)))
    (l8 : K.lookup q8 = some ⟨oc8, od8, .func (PySem.W.fnOf "_law_share" "_law_share" (defArgs sLawShare) (defBody sLawShare) (defScope sLawShare) .none kV8 dc8 pm8 an8 cd8 ct8), sl8⟩)
    (c8 : PySem.W.codeIn K cd8 "_law_share" = true)
    (k8 : PySem.W.keepIn K (.ref q8) = true)
    (a9 : PySem.W.nsIn K mainGlobals "_law_bar_right" = some (some (.ref q9)))
    (l9 : K.lookup q9 = some ⟨oc9, od9, .func (PySem.W.fnOf "_law_bar_right" "_law_bar_right" (defArgs sLawBarRight) (defBody sLawBarRight) (defScope sLawBarRight) .none kV9 dc9 pm9 an9 cd9 ct9), sl9⟩)
    (c9 : PySem.W.codeIn K cd9 "_law_bar_right" = true)
    (k9 : PySem.W.keepIn K (.ref q9) = true)
    (a10 : PySem.W.nsIn K mainGlobals "_law_percent_right" = some (some (.ref q10)))
    (l10 : K.lookup q10 = some ⟨oc10, od10, .func (PySem.W.fnOf "_law_percent_right" "_law_percent_right" (defArgs sLawPercentRight) (defBody sLawPercentRight) (defScope sLawPercentRight) .none kV10 dc10 pm10 an10 cd10 ct10), sl10⟩)
    (c10 : PySem.W.codeIn K cd10 "_law_percent_right" = true)
    (k10 : PySem.W.keepIn K (.ref q10) = true)
    (a11 : PySem.W.nsIn K mainGlobals "law" = some (some (.ref q11)))
    (l11 : K.lookup q11 = some ⟨oc11, od11, .func (PySem.W.fnOf "law" "law" (defArgs sLaw) (defBody sLaw) (defScope sLaw) .none kV11 dc11 pm11 an11 cd11 ct11), sl11⟩)
    (c11 : PySem.W.codeIn K cd11 "law" = true)
    (k11 : PySem.W.keepIn K (.ref q11) = true)
    (co_MOST_SIGNS : PySem.W.nsIn K mainGlobals "MOST_SIGNS" = some (some (.int 100 tk_MOST_SIGNS)))
    (bi_gcd : PySem.W.nsIn K mainGlobals "gcd" = some (some (.builtin "math.gcd")))
    (at_WHOLE : PySem.W.nsIn K mainGlobals "WHOLE" = some (some (.ref cT_WHOLE)))
    (lt_WHOLE : K.lookup cT_WHOLE = some ⟨.type "tuple", oT_WHOLE, .seq ([.int 1 tt_WHOLE_0, .int 1 tt_WHOLE_1] : List Value).toArray nT_WHOLE, sT_WHOLE⟩)
    (z_isinstance : PySem.W.nsIn K mainGlobals "isinstance" = some none)
    (z_int : PySem.W.nsIn K mainGlobals "int" = some none)
    (z_bool : PySem.W.nsIn K mainGlobals "bool" = some none)
    (z_str : PySem.W.nsIn K mainGlobals "str" = some none)
    (z_list : PySem.W.nsIn K mainGlobals "list" = some none)
    (z_tuple : PySem.W.nsIn K mainGlobals "tuple" = some none)
    (z_dict : PySem.W.nsIn K mainGlobals "dict" = some none)
    (z_len : PySem.W.nsIn K mainGlobals "len" = some none)
    (z_all : PySem.W.nsIn K mainGlobals "all" = some none)
    (z_any : PySem.W.nsIn K mainGlobals "any" = some none)
    (z_set : PySem.W.nsIn K mainGlobals "set" = some none)
    (z_max : PySem.W.nsIn K mainGlobals "max" = some none)
    (z_min : PySem.W.nsIn K mainGlobals "min" = some none)
    (z_range : PySem.W.nsIn K mainGlobals "range" = some none)
    (z_zip : PySem.W.nsIn K mainGlobals "zip" = some none)
    (z_sum : PySem.W.nsIn K mainGlobals "sum" = some none)
    (z_sorted : PySem.W.nsIn K mainGlobals "sorted" = some none)
    (z_abs : PySem.W.nsIn K mainGlobals "abs" = some none)
    (z_enumerate : PySem.W.nsIn K mainGlobals "enumerate" = some none) :
    ∃ fd : FuncData, (∀ (s : Shared) (v : Value), BindsTo s fd ⟨[v], []⟩ [("_law_script", v)]) ∧ ∀ base : Heap, K.In base → base.Ns mainGlobals mg → FnOk l.prog w K mg base CX0 8 fa fd ["_law_script"] (spLaw K) := by
  have e := hfa.symm.trans (PySem.W.mg_of X G a11)
  cases e
  have g0 : Gd K mg "is_number" sIsNumber [.non] q0 _ := ⟨⟨⟨oc0, od0, .ref dT0, kV0, dc0, pm0, an0, cd0, ct0, sl0, rfl, l0, c0, .inr ⟨by simp, dT0, _, _, _, rfl, lT0, rfl, .cons rfl .nil⟩, .inl rfl⟩, k0⟩, PySem.W.mg_of X G a0⟩
  have F1 := fun_mk (st := sIsShare) l1 c1 k1
  have b1 := F1.binds (ps := ["value"]) fun _ _ _ _ _ _ us hl => match us, hl with | [_], _ => rfl
  have g1 : Gf K mg "is_share" sIsShare ["value"] q1 _ := ⟨F1, PySem.W.mg_of X G a1, b1⟩
  have F2 := fun_mk (st := sIsLess) l2 c2 k2
  have b2 := F2.binds (ps := ["one", "other"]) fun _ _ _ _ _ _ us hl => match us, hl with | [_, _], _ => rfl
  have g2 : Gf K mg "is_less" sIsLess ["one", "other"] q2 _ := ⟨F2, PySem.W.mg_of X G a2, b2⟩
  have g3 : Gd K mg "bar" sBar [.int 20] q3 _ := ⟨⟨⟨oc3, od3, .ref dT3, kV3, dc3, pm3, an3, cd3, ct3, sl3, rfl, l3, c3, .inr ⟨by simp, dT3, _, _, _, rfl, lT3, rfl, .cons ⟨_, rfl⟩ .nil⟩, .inl rfl⟩, k3⟩, PySem.W.mg_of X G a3⟩
  have F4 := fun_mk (st := sPercent) l4 c4 k4
  have b4 := F4.binds (ps := ["share"]) fun _ _ _ _ _ _ us hl => match us, hl with | [_], _ => rfl
  have g4 : Gf K mg "percent" sPercent ["share"] q4 _ := ⟨F4, PySem.W.mg_of X G a4, b4⟩
  have F5 := fun_mk (st := sRoundedDown) l5 c5 k5
  have b5 := F5.binds (ps := ["share", "many"]) fun _ _ _ _ _ _ us hl => match us, hl with | [_, _], _ => rfl
  have g5 : Gf K mg "rounded_down" sRoundedDown ["share", "many"] q5 _ := ⟨F5, PySem.W.mg_of X G a5, b5⟩
  have F6 := fun_mk (st := sIsWithinWhole) l6 c6 k6
  have b6 := F6.binds (ps := ["value"]) fun _ _ _ _ _ _ us hl => match us, hl with | [_], _ => rfl
  have g6 : Gf K mg "is_within_whole" sIsWithinWhole ["value"] q6 _ := ⟨F6, PySem.W.mg_of X G a6, b6⟩
  have F7 := fun_mk (st := sLawCellAt) l7 c7 k7
  have b7 := F7.binds (ps := ["_law_script", "_law_k"]) fun _ _ _ _ _ _ us hl => match us, hl with | [_, _], _ => rfl
  have g7 : Gf K mg "_law_cell_at" sLawCellAt ["_law_script", "_law_k"] q7 _ := ⟨F7, PySem.W.mg_of X G a7, b7⟩
  have F8 := fun_mk (st := sLawShare) l8 c8 k8
  have b8 := F8.binds (ps := ["_law_cell"]) fun _ _ _ _ _ _ us hl => match us, hl with | [_], _ => rfl
  have g8 : Gf K mg "_law_share" sLawShare ["_law_cell"] q8 _ := ⟨F8, PySem.W.mg_of X G a8, b8⟩
  have F9 := fun_mk (st := sLawBarRight) l9 c9 k9
  have b9 := F9.binds (ps := ["_law_one_share", "_law_many", "_law_got"]) fun _ _ _ _ _ _ us hl => match us, hl with | [_, _, _], _ => rfl
  have g9 : Gf K mg "_law_bar_right" sLawBarRight ["_law_one_share", "_law_many", "_law_got"] q9 _ := ⟨F9, PySem.W.mg_of X G a9, b9⟩
  have F10 := fun_mk (st := sLawPercentRight) l10 c10 k10
  have b10 := F10.binds (ps := ["_law_one_share", "_law_got"]) fun _ _ _ _ _ _ us hl => match us, hl with | [_, _], _ => rfl
  have g10 : Gf K mg "_law_percent_right" sLawPercentRight ["_law_one_share", "_law_got"] q10 _ := ⟨F10, PySem.W.mg_of X G a10, b10⟩
  have F11 := fun_mk (st := sLaw) l11 c11 k11
  have kt_WHOLE : ∀ H : Hp, SqT K H cT_WHOLE [.int 1, .int 1] := fun H => .inr ⟨_, _, _, lt_WHOLE, rfl, rfl, by show 2 ≤ sizeLine; decide, .cons ⟨_, rfl⟩ (.cons ⟨_, rfl⟩ .nil)⟩
  have b : Bi mg := ⟨PySem.W.mg_none_of X G z_isinstance, PySem.W.mg_none_of X G z_int, PySem.W.mg_none_of X G z_bool, PySem.W.mg_none_of X G z_str, PySem.W.mg_none_of X G z_list, PySem.W.mg_none_of X G z_tuple, PySem.W.mg_none_of X G z_dict, PySem.W.mg_none_of X G z_len, PySem.W.mg_none_of X G z_all, PySem.W.mg_none_of X G z_any, PySem.W.mg_none_of X G z_set, PySem.W.mg_none_of X G z_max, PySem.W.mg_none_of X G z_min, PySem.W.mg_none_of X G z_range, PySem.W.mg_none_of X G z_zip, PySem.W.mg_none_of X G z_sum, PySem.W.mg_none_of X G z_sorted, PySem.W.mg_none_of X G z_abs, PySem.W.mg_none_of X G z_enumerate⟩
  refine ⟨PySem.W.fnOf "law" "law" (defArgs sLaw) (defBody sLaw) (defScope sLaw) .none kV11 dc11 pm11 an11 cd11 ct11, fun s v => .of_eq rfl, fun base _ _ => ?_⟩
  exact ok_law F11 g3 g4 g6 g1 g2 g0 g5 g7 g8 g9 g10 b (PySem.W.mg_of X G bi_gcd) (PySem.W.mg_of X G at_WHOLE) kt_WHOLE (PySem.W.mg_of X G co_MOST_SIGNS)
end Hf
open PySem PySem.W PyProof.Rows
set_option Elab.async false
set_option maxRecDepth 100000 in
set_option maxHeartbeats 0 in
theorem PySem.Challenge.cw_howfar_k08_whole_shown_holds : PySem.Challenge.rw_howfar_k08_whole_shown.Holds := by
  w_on; o_law; k_head; (case hw => w_witness2)
  k_fill
  refine L2.walk_of (l := PySem.Challenge.rw_howfar_k08_whole_shown) (n := 63) (k := 8) (x := "_law_script") (CX := fun _ => L2.CX0) (sp := fun w => Hf.spLaw _) rfl (by decide) rfl ⟨rfl, by decide, by decide⟩ (fun w h Y => PySem.W.kIn_of Y) ?F (fun _ _ a ns hl _ hS => ⟨a, ns, rfl, hS, hl, fun _ => rfl⟩) (fun _ _ _ _ _ h => h)
  case F =>
    intro w mg fa h KX G hmg
    refine' Hf.all_mk KX G hmg ?a0 ?l0 ?c0 ?k0 ?lT0 ?a1 ?l1 ?c1 ?k1 ?a2 ?l2 ?c2 ?k2 ?a3 ?l3 ?c3 ?k3 ?lT3 ?a4 ?l4 ?c4 ?k4 ?a5 ?l5 ?c5 ?k5 ?a6 ?l6 ?c6 ?k6 ?a7 ?l7 ?c7 ?k7 ?a8 ?l8 ?c8 ?k8 ?a9 ?l9 ?c9 ?k9 ?a10 ?l10 ?c10 ?k10 ?a11 ?l11 ?c11 ?k11 ?co_MOST_SIGNS ?bi_gcd ?at_WHOLE ?lt_WHOLE ?z_isinstance ?z_int ?z_bool ?z_str ?z_list ?z_tuple ?z_dict ?z_len ?z_all ?z_any ?z_set ?z_max ?z_min ?z_range ?z_zip ?z_sum ?z_sorted ?z_abs ?z_enumerate
    (case a0 => k_is)
    (case a1 => k_is)
    (case a2 => k_is)
    (case a3 => k_is)
    (case a4 => k_is)
    (case a5 => k_is)
    (case a6 => k_is)
    (case a7 => k_is)
    (case a8 => k_is)
    (case a9 => k_is)
    (case a10 => k_is)
    (case a11 => k_is)
    (case at_WHOLE => k_is)
    (case l0 => k_is)
    (case l1 => k_is)
    (case l2 => k_is)
    (case l3 => k_is)
    (case l4 => k_is)
    (case l5 => k_is)
    (case l6 => k_is)
    (case l7 => k_is)
    (case l8 => k_is)
    (case l9 => k_is)
    (case l10 => k_is)
    (case l11 => k_is)
    (case lt_WHOLE => k_is)
    (case c0 => k_is)
    (case k0 => k_is)
    (case lT0 => k_is)
    (case c1 => k_is)
    (case k1 => k_is)
    (case c2 => k_is)
    (case k2 => k_is)
    (case c3 => k_is)
    (case k3 => k_is)
    (case lT3 => k_is)
    (case c4 => k_is)
    (case k4 => k_is)
    (case c5 => k_is)
    (case k5 => k_is)
    (case c6 => k_is)
    (case k6 => k_is)
    (case c7 => k_is)
    (case k7 => k_is)
    (case c8 => k_is)
    (case k8 => k_is)
    (case c9 => k_is)
    (case k9 => k_is)
    (case c10 => k_is)
    (case k10 => k_is)
    (case c11 => k_is)
    (case k11 => k_is)
    (case co_MOST_SIGNS => k_is)
    (case bi_gcd => k_is)
    (case z_isinstance => k_is)
    (case z_int => k_is)
    (case z_bool => k_is)
    (case z_str => k_is)
    (case z_list => k_is)
    (case z_tuple => k_is)
    (case z_dict => k_is)
    (case z_len => k_is)
    (case z_all => k_is)
    (case z_any => k_is)
    (case z_set => k_is)
    (case z_max => k_is)
    (case z_min => k_is)
    (case z_range => k_is)
    (case z_zip => k_is)
    (case z_sum => k_is)
    (case z_sorted => k_is)
    (case z_abs => k_is)
    (case z_enumerate => k_is)
