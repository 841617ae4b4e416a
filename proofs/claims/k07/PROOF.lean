import PyProof.Rows.All
import Wide.All
import OpenK.AllK
import Wide.FinOn
import HandS.ForMost
import HandS.Exc
import HandS.TryOnly
import HandS.AnyAll
import HandS.IsInst
import HandS.Defaults
import HandS.MakeKw
import HandS.Zip
import HandS.Strs
import HandS.Wide
import HandS.EndTab
import HandS.Codes
import HandS.Style
import HandS.Gcd
import HandS.FStr
import HandS.GenList
import HandS.Nested
import HandS.SetFor
import HandS.SortInts
import PySem.Challenge.RW_howfar_k07_whole_few
set_option Elab.async false
set_option maxRecDepth 100000
set_option maxHeartbeats 4000000
namespace Hf
open PySem L2 PySem.Spec PyProof.Rows
/-! ## heaps: all that is tracked stays, tables may grow -/
def NTb (o : HO) : Prop := ∀ q, o ≠ .tbl q
structure Sm (H H' : Hp) : Prop where
  keep : ∀ b o, H b = some o → NTb o → H' b = some o
  tab : ∀ b q, H b = some (.tbl q) → ∃ q', H' b = some (.tbl q') ∧ (TriplesOk q.toList → TriplesOk q'.toList)
theorem Sm.refl (H : Hp) : Sm H H := ⟨fun _ _ h _ => h, fun _ q h => ⟨q, h, fun z => z⟩⟩
theorem Sm.trans {H H1 H2 : Hp} (a : Sm H H1) (b : Sm H1 H2) : Sm H H2 :=
  ⟨fun c o h n => b.keep c o (a.keep c o h n) n, fun c q h => by
    obtain ⟨q1, h1, t1⟩ := a.tab c q h
    obtain ⟨q2, h2, t2⟩ := b.tab c q1 h1
    exact ⟨q2, h2, fun z => t2 (t1 z)⟩⟩
theorem Sm.free {H H' : Hp} (e : Sm H H') {l : Addr} (h : H' l = Option.none) : H l = Option.none := by
  cases q : H l with
  | none => rfl
  | some o =>
    by_cases hn : NTb o
    · rw [e.keep l o q hn] at h
      cases h
    · cases o with
      | tbl ps =>
        obtain ⟨q', h', _⟩ := e.tab l ps q
        rw [h'] at h
        cases h
      | _ => exact absurd (fun _ z => by cases z) hn
theorem ntb_lst {xs : List V} : NTb (.lst xs) := fun _ z => by cases z
theorem ntb_tup {xs : List V} : NTb (.tup xs) := fun _ z => by cases z
theorem ntb_ins {C dx : Addr} {fs : List (Str × V)} : NTb (.ins C dx fs) := fun _ z => by cases z
theorem ntb_frz {o : Obj} {u : HO} : NTb (.frz o u) := fun _ z => by cases z
theorem ntb_dK {k : List (Key × V)} : NTb (.dK k) := fun _ z => by cases z
theorem Sm.lst {H H' : Hp} (e : Sm H H') {a : Addr} {xs : List V} (h : H a = some (.lst xs)) : H' a = some (.lst xs) := e.keep _ _ h ntb_lst
theorem Sm.tup {H H' : Hp} (e : Sm H H') {a : Addr} {xs : List V} (h : H a = some (.tup xs)) : H' a = some (.tup xs) := e.keep _ _ h ntb_tup
theorem Sm.ins {H H' : Hp} (e : Sm H H') {a C dx : Addr} {fs : List (Str × V)} (h : H a = some (.ins C dx fs)) : H' a = some (.ins C dx fs) := e.keep _ _ h ntb_ins
theorem Sm.dK {H H' : Hp} (e : Sm H H') {a : Addr} {k : List (Key × V)} (h : H a = some (.dK k)) : H' a = some (.dK k) := e.keep _ _ h ntb_dK
theorem Sm.new {H : Hp} {p : Addr} {o : HO} (h : H p = Option.none) : Sm H (upd H p o) :=
  ⟨fun b u q _ => by rw [upd_ne (ne_of_none q h)]; exact q, fun b q z => ⟨q, by rw [upd_ne (ne_of_none z h)]; exact z, fun z => z⟩⟩
/-- what was new since H is written -/
theorem Sm.put {H H' : Hp} (e : Sm H H') {p : Addr} {o : HO} (h : H p = Option.none) : Sm H (upd H' p o) :=
  ⟨fun b u q n => by rw [upd_ne (ne_of_none q h)]; exact e.keep b u q n, fun b q z => by
    obtain ⟨q', h', t⟩ := e.tab b q z
    exact ⟨q', by rw [upd_ne (ne_of_none z h)]; exact h', t⟩⟩
theorem Sm.seqL {K : PySem.W.Frag} {H H' : Hp} {a : Addr} {xs : List V} (e : Sm H H') (h : SqL K H a xs) : SqL K H' a xs := by
  rcases h with (h | ⟨o, h⟩) | h
  · exact .inl (.inl (e.lst h))
  · exact .inl (.inr ⟨o, e.keep _ _ h ntb_frz⟩)
  · exact .inr h
abbrev Tab (H : Hp) (P : Addr) : Prop := GxR.TabG H P
theorem Sm.tabG {H H' : Hp} (e : Sm H H') {P : Addr} (h : Tab H P) : Tab H' P := by
  obtain ⟨ps, h1, h2⟩ := h
  obtain ⟨q, h3, h4⟩ := e.tab P ps h1
  exact ⟨q, h3, h4 h2⟩
theorem Sm.tabbed {H H' : Hp} {P : Addr} (h : Tab H P) (t : GxR.Tabbed P H H') : Sm H H' := by
  obtain ⟨ps, h1, _⟩ := h
  obtain ⟨⟨qs, h3, h4⟩, h5⟩ := t
  refine ⟨fun b o e n => ?_, fun b q e => ?_⟩
  · by_cases hb : b = P
    · rw [hb, h1] at e
      cases e
      exact absurd rfl (n ps)
    · rw [h5 b hb]
      exact e
  · by_cases hb : b = P
    · rw [hb]
      exact ⟨qs, h3, fun _ => h4⟩
    · exact ⟨q, by rw [h5 b hb]; exact e, fun z => z⟩
/-! ## plans -/
mutual
inductive Tr where
  | leaf (nm : Str) (st : Option Int)
  | node (b : Bool) (nm : Str) (ps : Ps)
inductive Ps where
  | nil
  | cons (w : Int) (t : Tr) (r : Ps)
end
def Ps.toL : Ps → List (Int × Tr)
  | .nil => []
  | .cons w t r => (w, t) :: r.toL
def Ps.ofL : List (Int × Tr) → Ps
  | [] => .nil
  | (w, t) :: r => .cons w t (Ps.ofL r)
theorem Ps.toL_ofL : ∀ l : List (Int × Tr), (Ps.ofL l).toL = l
  | [] => rfl
  | (_, _) :: r => by show _ :: (Ps.ofL r).toL = _; rw [Ps.toL_ofL r]
theorem Ps.ofL_toL : ∀ l : Ps, Ps.ofL l.toL = l
  | .nil => rfl
  | .cons w t r => by show Ps.cons w t (Ps.ofL r.toL) = _; rw [Ps.ofL_toL r]
def Tr.nm : Tr → Str
  | .leaf n _ => n
  | .node _ n _ => n
mutual
def Tr.names : Tr → List Str
  | .leaf n _ => [n]
  | .node _ n ps => n :: ps.names
def Ps.names : Ps → List Str
  | .nil => []
  | .cons _ t r => t.names ++ r.names
end
mutual
def Tr.lev : Tr → Nat
  | .leaf _ _ => 1
  | .node _ _ ps => ps.lev + 1
def Ps.lev : Ps → Nat
  | .nil => 0
  | .cons _ t r => max t.lev r.lev
end
theorem Ps.names_toL : ∀ p : Ps, p.names = p.toL.flatMap (fun x => x.2.names)
  | .nil => rfl
  | .cons w t r => by
    show t.names ++ r.names = ((w, t) :: r.toL).flatMap _
    rw [List.flatMap_cons, Ps.names_toL r]
theorem Ps.lev_toL : ∀ p : Ps, p.lev = p.toL.foldl (fun d x => max d x.2.lev) 0 := by
  have key : ∀ (p : Ps) (d : Nat), max d p.lev = p.toL.foldl (fun d x => max d x.2.lev) d := by
    intro p
    induction p using Ps.rec (motive_1 := fun _ => True) with
    | leaf => trivial
    | node => trivial
    | nil => intro d; show max d 0 = d; omega
    | cons w t r _ ih =>
      intro d
      show max d (max t.lev r.lev) = r.toL.foldl _ (max d t.lev)
      rw [← ih]; omega
  intro p
  rw [← key p 0]; omega
theorem Ps.lev_mem : ∀ {p : Ps} {w : Int} {t : Tr}, (w, t) ∈ p.toL → t.lev ≤ p.lev
  | .nil, _, _, h => by cases h
  | .cons w' t' r, w, t, h => by
    show t.lev ≤ max t'.lev r.lev
    rcases List.mem_cons.mp h with e | h
    · cases e; omega
    · have := Ps.lev_mem (p := r) h
      omega
/-! ## names, steps, weights -/
def nameOk (z : Str) : Bool := decide (1 ≤ z.length) && decide (z.length ≤ 8) && z.cps.toList.all fun c => decide (97 ≤ c) && decide (c ≤ 122)
def numOk (lo hi i : Int) : Bool := decide (lo ≤ i) && decide (i ≤ hi)
def stOk : Option Int → Bool
  | none => true
  | some i => numOk 1 1000 i
def stV : Option Int → V
  | none => .non
  | some i => .int i
def kindS (b : Bool) : Str := if b = true then "row" else "bundle"
/-- as many, as deep, as differently named as a plan's works are -/
def planOk (t : Tr) : Bool := decide (t.names.length ≤ 20) && decide t.names.Nodup && decide (t.lev ≤ 5)
mutual
def Tr.Ok : Tr → Prop
  | .leaf n st => nameOk n = true ∧ stOk st = true
  | .node b n ps => nameOk n = true ∧ ps.toL ≠ [] ∧ ps.toL.length ≤ 6 ∧ ps.Ok ∧ planOk (.node b n ps) = true
def Ps.Ok : Ps → Prop
  | .nil => True
  | .cons w t r => numOk 1 100 w = true ∧ t.Ok ∧ r.Ok
end
theorem Ps.Ok.mem : ∀ {p : Ps} {w : Int} {t : Tr}, p.Ok → (w, t) ∈ p.toL → numOk 1 100 w = true ∧ t.Ok
  | .nil, _, _, _, h => by cases h
  | .cons w' t' r, w, t, o, h => by
    obtain ⟨o1, o2, o3⟩ := o
    rcases List.mem_cons.mp h with e | h
    · cases e; exact ⟨o1, o2⟩
    · exact Ps.Ok.mem o3 h
/-! ## plans as the program keeps them: tuples -/
mutual
def TrAt (H : Hp) : Tr → V → Prop
  | .leaf n st, v => ∃ a e, v = .ref a ∧ H a = some (.tup [.str "leaf", .str n, stV st, .ref e]) ∧ H e = some (.tup [])
  | .node b n ps, v => ∃ a e xs, v = .ref a ∧ H a = some (.tup [.str (kindS b), .str n, .non, .ref e]) ∧ H e = some (.tup xs) ∧ PsAt H ps xs
def PsAt (H : Hp) : Ps → List V → Prop
  | .nil, xs => xs = []
  | .cons w t r, xs => ∃ p v ys, xs = .ref p :: ys ∧ H p = some (.tup [.int w, v]) ∧ TrAt H t v ∧ PsAt H r ys
end
mutual
theorem TrAt.mono {H H' : Hp} (e : Sm H H') : ∀ {t : Tr} {v : V}, TrAt H t v → TrAt H' t v
  | .leaf n st, v, h => by
    obtain ⟨a, b, h1, h2, h3⟩ := h
    exact ⟨a, b, h1, e.tup h2, e.tup h3⟩
  | .node b n ps, v, h => by
    obtain ⟨a, c, xs, h1, h2, h3, h4⟩ := h
    exact ⟨a, c, xs, h1, e.tup h2, e.tup h3, PsAt.mono e h4⟩
theorem PsAt.mono {H H' : Hp} (e : Sm H H') : ∀ {p : Ps} {xs : List V}, PsAt H p xs → PsAt H' p xs
  | .nil, xs, h => h
  | .cons w t r, xs, h => by
    obtain ⟨p, v, ys, h1, h2, h3, h4⟩ := h
    exact ⟨p, v, ys, h1, e.tup h2, TrAt.mono e h3, PsAt.mono e h4⟩
end
theorem PsAt.length {H : Hp} : ∀ {p : Ps} {xs : List V}, PsAt H p xs → xs.length = p.toL.length
  | .nil, xs, h => by cases h; rfl
  | .cons w t r, xs, h => by
    obtain ⟨p, v, ys, rfl, h2, h3, h4⟩ := h
    show ys.length + 1 = r.toL.length + 1
    rw [PsAt.length h4]
theorem PsAt.get {H : Hp} : ∀ {p : Ps} {xs : List V} {i : Nat} {x : V}, PsAt H p xs → xs[i]? = some x → ∃ (w : Int) (t : Tr) (q : Addr) (v : V), p.toL[i]? = some (w, t) ∧ x = V.ref q ∧ H q = some (.tup [.int w, v]) ∧ TrAt H t v
  | .nil, xs, i, x, h, e => by cases h; simp at e
  | .cons w t r, xs, i, x, h, e => by
    obtain ⟨p, v, ys, rfl, h2, h3, h4⟩ := h
    cases i with
    | zero =>
      simp at e
      exact ⟨w, t, p, v, rfl, e.symm, h2, h3⟩
    | succ i =>
      have e' : ys[i]? = some x := by simpa using e
      obtain ⟨w', t', q, v', g1, g2, g3, g4⟩ := PsAt.get h4 e'
      exact ⟨w', t', q, v', by show ((w, t) :: r.toL)[i + 1]? = _; rw [List.getElem?_cons_succ]; exact g1, g2, g3, g4⟩
theorem PsAt.of {H : Hp} : ∀ {l : List (Int × Tr)} {xs : List V}, xs.length = l.length → (∀ (i : Nat) (w : Int) (t : Tr), l[i]? = some (w, t) → ∃ (q : Addr) (v : V), xs[i]? = some (V.ref q) ∧ H q = some (.tup [.int w, v]) ∧ TrAt H t v) → PsAt H (Ps.ofL l) xs
  | [], [], _, _ => rfl
  | [], _ :: _, e, _ => by simp at e
  | _ :: _, [], e, _ => by simp at e
  | (w, t) :: l, x :: xs, e, h => by
    obtain ⟨q, v, h1, h2, h3⟩ := h 0 w t rfl
    simp at h1
    subst h1
    refine ⟨q, v, xs, rfl, h2, h3, PsAt.of (by simpa using e) fun i w' t' z => ?_⟩
    obtain ⟨q', v', g1, g2, g3⟩ := h (i + 1) w' t' (by simpa using z)
    exact ⟨q', v', by simpa using g1, g2, g3⟩
end Hf
set_option Elab.async false
set_option maxRecDepth 100000
set_option maxHeartbeats 4000000
namespace Hf
open PySem L2 PySem.Spec PyProof.Rows
theorem b_int : bootBuiltins "int" = some (.type "int") := by decide +kernel
theorem b_bool : bootBuiltins "bool" = some (.type "bool") := by decide +kernel
theorem b_str : bootBuiltins "str" = some (.type "str") := by decide +kernel
theorem b_tuple : bootBuiltins "tuple" = some (.type "tuple") := by decide +kernel
theorem b_list : bootBuiltins "list" = some (.type "list") := by decide +kernel
theorem b_dict : bootBuiltins "dict" = some (.type "dict") := by decide +kernel
theorem b_isi : bootBuiltins "isinstance" = some (.builtin "isinstance") := by decide +kernel
theorem b_sum : bootBuiltins "sum" = some (.builtin "sum") := by decide +kernel
theorem b_max : bootBuiltins "max" = some (.builtin "max") := by decide +kernel
theorem b_min : bootBuiltins "min" = some (.builtin "min") := by decide +kernel
section
variable {K : PySem.W.Frag}
theorem kit_int_int : PySem.W.kitOne K (.type "int") (.type "int") = some true := kit_ty (by decide +kernel)
theorem kit_int_bool : PySem.W.kitOne K (.type "int") (.type "bool") = some false := kit_ty (by decide +kernel)
theorem kit_tup_tup : PySem.W.kitOne K (.type "tuple") (.type "tuple") = some true := kit_ty (by decide +kernel)
theorem kit_str_str : PySem.W.kitOne K (.type "str") (.type "str") = some true := kit_ty (by decide +kernel)
theorem kit_list_list : PySem.W.kitOne K (.type "list") (.type "list") = some true := kit_ty (by decide +kernel)
theorem kit_dict_dict : PySem.W.kitOne K (.type "dict") (.type "dict") = some true := kit_ty (by decide +kernel)
theorem Sm.seqT {H H' : Hp} {a : Addr} {xs : List V} (e : Sm H H') (h : SqT K H a xs) : SqT K H' a xs := by
  rcases h with (h | ⟨o, h⟩) | h
  · exact .inl (.inl (e.tup h))
  · exact .inl (.inr ⟨o, e.keep _ _ h ntb_frz⟩)
  · exact .inr h
theorem hu64 {A : Around} {k : Nat} (hr : Room k A) : A.units + 64 < cLine := by have := hr.un; omega
theorem intsDp {H : Hp} : ∀ ns : List Int, DpAll K H (ns.map V.int) (ns.map PyData.int)
  | [] => .nil
  | n :: r => .cons (.int n) (intsDp r)
end
theorem ints_lay : ∀ ns : List Int, PyData.canLayAll0 (ns.map PyData.int) = true
  | [] => rfl
  | _ :: r => by show (true && PyData.canLayAll0 (r.map PyData.int)) = true; rw [ints_lay r]; rfl
theorem ints_dep : ∀ ns : List Int, PyData.depthAll (ns.map PyData.int) = 0
  | [] => rfl
  | _ :: r => by show max 0 (PyData.depthAll (r.map PyData.int)) = 0; rw [ints_dep r]; rfl
theorem ints_shaped (ns : List Int) : SeqAt.shaped (.list (ns.map PyData.int)) = true := by
  unfold SeqAt.shaped
  rw [show (PyData.list (ns.map PyData.int)).canLay0 = PyData.canLayAll0 (ns.map PyData.int) from rfl, ints_lay, show (PyData.list (ns.map PyData.int)).depth = PyData.depthAll (ns.map PyData.int) + 1 from rfl, ints_dep]
  rfl
theorem nil_shaped : SeqAt.shaped (.list []) = true := by decide +kernel
/-- the built-in names are the built-ins' -/
structure Bi (mg : Str → Option Value) : Prop where
  isinstance : mg "isinstance" = none
  int : mg "int" = none
  bool : mg "bool" = none
  str : mg "str" = none
  list : mg "list" = none
  tuple : mg "tuple" = none
  dict : mg "dict" = none
  len : mg "len" = none
  all : mg "all" = none
  any : mg "any" = none
  set : mg "set" = none
  max : mg "max" = none
  min : mg "min" = none
  range : mg "range" = none
  zip : mg "zip" = none
  sum : mg "sum" = none
  sorted : mg "sorted" = none
  abs : mg "abs" = none
  enumerate : mg "enumerate" = none
/-- a def of the module's own -/
structure Gf (K : PySem.W.Frag) (mg : Str → Option Value) (x : Str) (st : Stmt) (ps : List Str) (f : Addr) (fd : FuncData) : Prop where
  F : Fun K x x st f fd
  m : mg x = some (.ref f)
  b : Binds K fd ps []
theorem Gf.kp {K : PySem.W.Frag} {mg : Str → Option Value} {x : Str} {st : Stmt} {ps : List Str} {f : Addr} {fd : FuncData} (D : Gf K mg x st ps f fd) : PySem.W.keepIn K (.ref f) = true := D.F.kp
/-- one with defaults -/
structure Gd (K : PySem.W.Frag) (mg : Str → Option Value) (x : Str) (st : Stmt) (dvs : List V) (f : Addr) (fd : FuncData) : Prop where
  F : FunD K x x (defArgs st) (defBody st) (defScope st) dvs [] f fd
  m : mg x = some (.ref f)
theorem Gd.kp {K : PySem.W.Frag} {mg : Str → Option Value} {x : Str} {st : Stmt} {dvs : List V} {f : Addr} {fd : FuncData} (D : Gd K mg x st dvs f fd) : PySem.W.keepIn K (.ref f) = true := D.F.kp
/-- a def whose code object stands at c, its table at T -/
structure Gt (K : PySem.W.Frag) (mg : Str → Option Value) (base : Heap) (x : Str) (st : Stmt) (ps : List Str) (f : Addr) (fd : FuncData) (T : Addr) : Prop where
  g : Gf K mg x st ps f fd
  tab : ∃ c, fd.code = .ref c ∧ GxR.TabB base mg c T
theorem Gt.kp {K : PySem.W.Frag} {mg : Str → Option Value} {base : Heap} {x : Str} {st : Stmt} {ps : List Str} {f : Addr} {fd : FuncData} {T : Addr} (D : Gt K mg base x st ps f fd T) : PySem.W.keepIn K (.ref f) = true := D.g.F.kp
theorem Gt.m {K : PySem.W.Frag} {mg : Str → Option Value} {base : Heap} {x : Str} {st : Stmt} {ps : List Str} {f : Addr} {fd : FuncData} {T : Addr} (D : Gt K mg base x st ps f fd T) : mg x = some (.ref f) := D.g.m
theorem Gt.b {K : PySem.W.Frag} {mg : Str → Option Value} {base : Heap} {x : Str} {st : Stmt} {ps : List Str} {f : Addr} {fd : FuncData} {T : Addr} (D : Gt K mg base x st ps f fd T) : Binds K fd ps [] := D.g.b
theorem Gt.ok {P : Program} {w : World} {K : PySem.W.Frag} {mg : Str → Option Value} {base : Heap} {x : Str} {st : Stmt} {ps N : List Str} {f : Addr} {fd : FuncData} {T : Addr} {k : Nat} {sp : Sp} (D : Gt K mg base x st ps f fd T) (S : FnScope N ps (defScope st)) (len : ∀ vs H Q E, sp vs H Q E → vs.length = ps.length)
    (hbody : ∀ (c : Addr) (A : Around) (outer : List Env) (s : Shared) (H : Hp) (vs : List V) (Q : VK) (E : XK), GxR.TabB base mg c T → Room k (A.deeper (envOfC x (defScope st) s.heap.objs.size f (.ref c))) → sp vs H Q E →
      ∃ t, PSs (cxOf CX0 P w K mg base N x (defScope st) f (.ref c) A outer s H E).nox (defBody st) t ∧ t { nx := fun _ H' => Q .non H', rt := Q } (start N vs) H) : FnOk P w K mg base CX0 (k + 1) f fd ps sp := by
  obtain ⟨c, hc, TB⟩ := D.tab
  obtain ⟨oc, od, kV, doc, pm, an, cdv, ct, osl, rfl, lk, hcd⟩ := D.g.F.ex
  obtain rfl : cdv = .ref c := hc
  refine fn_of lk hcd S len fun A outer s H vs Q E hr h => ?_
  obtain ⟨t, h1, h2⟩ := hbody c A outer s H vs Q E TB hr h
  exact ⟨t, h1.nox, h2⟩
theorem small1000' {n : Nat} (h : n ≤ 1000) : n ≤ sizeLine := Nat.le_trans h (by decide)
/-! ## a sign, so many times -/
def repS (c n : Nat) : Str := ⟨(List.replicate n c).toArray⟩
theorem rep_fold (c : Nat) : ∀ (n : Nat) (a : Array Nat), (List.replicate n (#[c] : Array Nat)).foldl (· ++ ·) a = a ++ (List.replicate n c).toArray
  | 0, a => by simp
  | n + 1, a => by
    rw [List.replicate_succ, List.foldl_cons, rep_fold c n, List.replicate_succ]
    apply Array.ext'
    simp
theorem repS_len (c n : Nat) : (repS c n).length = n := by
  show (List.replicate n c).toArray.size = n
  simp
theorem op_mulS {X : Cx} : OpR X (binaryOp .Mult) (fun x y H Q => ∃ (c : Nat) (n : Int), x = .str ⟨#[c]⟩ ∧ y = .int n ∧ 0 ≤ n ∧ n ≤ 1000 ∧ Q (.str (repS c n.toNat)) H) := by
  intro pins s σ H x y v u Q I rx ry h
  obtain ⟨c, n, rfl, rfl, h0, h1, q⟩ := h
  obtain ⟨t, rfl⟩ := rx
  obtain ⟨t', rfl⟩ := ry
  have l1 : (⟨#[c]⟩ : Str).length = 1 := rfl
  refine PySem.P.mul_str ?_ (fun a _ => ?_) (fun a _ => ?_) ?_
  · rw [decide_eq_false (by omega), decide_eq_false (by omega)]
    rfl
  · rw [l1]
    have : (1 : Int) ≤ (2 ^ 63 - 1) / n := by
      rw [Int.le_ediv_iff_mul_le (by omega)]
      omega
    omega
  · rw [l1]
    unfold PySem.Builtin.Str.tooLong
    have : 1 * n.toNat ≤ sizeLine := Nat.le_trans (show 1 * n.toNat ≤ 1000 by omega) (by decide)
    simp only [decide_eq_false_iff_not]
    omega
  · by_cases c1 : n < 1
    · rw [if_pos c1]
      have e : repS c n.toNat = Str.empty := by
        have : n.toNat = 0 := by omega
        rw [this]
        rfl
      rw [e] at q
      exact ⟨by decide, .str Str.empty, H, I.tok _, ⟨_, rfl⟩, q⟩
    · rw [if_neg c1]
      by_cases c2 : (n == 1 || (⟨#[c]⟩ : Str).length == 0) = true
      · rw [if_pos c2]
        rw [l1] at c2
        have n1 : n = 1 := by simpa using c2
        have e : repS c n.toNat = ⟨#[c]⟩ := by
          rw [n1]
          rfl
        rw [e] at q
        exact ⟨.str _, H, I, ⟨_, rfl⟩, q⟩
      · rw [if_neg c2]
        have e : (⟨(List.replicate n.toNat (⟨#[c]⟩ : Str).cps).foldl (· ++ ·) #[]⟩ : Str) = repS c n.toNat := by
          show (⟨(List.replicate n.toNat (#[c] : Array Nat)).foldl (· ++ ·) #[]⟩ : Str) = _
          rw [rep_fold]
          unfold repS
          simp
        rw [e]
        refine ⟨?_, .str _, H, I.tok _, ⟨_, rfl⟩, q⟩
        rw [repS_len]
        exact small1000' (by omega)
end Hf
set_option Elab.async false
set_option maxRecDepth 100000
set_option maxHeartbeats 4000000
namespace Hf
open PySem L2 PySem.Spec PyProof.Rows GenW
/-! ## all(e for x in xs), any(..): the element any expression -/
abbrev gEnv (X : Cx) (scope : Scope) (C : Addr) (cd : Value) : Env := genEnv scope (cloFrom X.env.cells scope.names []) C cd builtinsNs X.env
/-- the generator's frame -/
abbrev gex (X : Cx) (s : Shared) (H : Hp) (scope : Scope) (C : Addr) (cd : Value) (A : Around) (fp : List Addr) (pn : List (Addr × Obj)) : Cx :=
  { X with A := A, s_0 := s, H_0 := H, env := gEnv X scope C cd, outer := X.stack, stack := gEnv X scope C cd :: X.stack, ex := fp, fn := fun _ => false, calm := true, pn := pn, xe := fun _ _ => False }
structure GOk (scope : Scope) : Prop where
  co : scope.isCoroutine = false
  cell : ∀ y ∈ scope.names, y.2 ≠ .cell
  dot : scope.names.lookup (".0" : Str) = some NameKind.local
theorem inv_same {Y : Cx} {pins : List (Addr × Obj)} {σ : L2.St} {H : Hp} {s s' : Shared} (I : Inv Y pins σ H s) (h : s'.heap = s.heap) (o : s'.os = s.os) (b : AllBare s'.gens) : Inv Y pins σ H s' :=
  ⟨I.ok, o.trans I.os, b, by rw [h]; exact I.base, by rw [h]; exact I.loc, by rw [h]; exact I.cell, I.free, I.freeC, by rw [h]; exact I.pin, by rw [h]; exact I.hok, I.len⟩
/-- turn i: the iterator stands at i -/
structure GSt (Y : Cx) (fp : List Addr) (tn : Nat → Heap → Prop) (σ0 : L2.St) (i : Nat) (H : Hp) (s : Shared) : Prop where
  inv : Inv Y [] σ0 H s
  tn : tn i s.heap
  fr : ∀ b ∈ fp, H b = none
theorem GSt.same {Y : Cx} {fp : List Addr} {tn : Nat → Heap → Prop} {σ0 : L2.St} {i : Nat} {H : Hp} {s s' : Shared} (G : GSt Y fp tn σ0 i H s) (h : s'.heap = s.heap) (o : s'.os = s.os) (b : AllBare s'.gens) : GSt Y fp tn σ0 i H s' :=
  ⟨inv_same G.inv h o b, by rw [h]; exact G.tn, G.fr⟩
def RAll (Y : Cx) (σ0 : L2.St) (st : Bool) (Q : VK) : GenEnd := fun _ _ r s => ((r = .ok (.ret .none) ∨ r = .ok .next) ∧ ∃ H, Inv Y [] σ0 H s ∧ Q (.bl (!st)) H) ∨ ∃ e, r = .error e ∧ False
def YAll (Y : Cx) (fp : List Addr) (tn : Nat → Heap → Prop) (σ0 : L2.St) (st : Bool) (Q : VK) : Protocol := fun _ _ v s kap =>
  ∃ (b : Bool) (i : Nat) (H : Hp), v = .bool b ∧ GSt Y fp tn σ0 i H s ∧ if b = st then Q (.bl st) H else ∀ s', s'.heap = s.heap → s'.os = s.os → AllBare s'.gens → kap (.send .none) s'
/-- one turn -/
def GTurn (J : It) (g : TG) (te : TE) (vs : List Nat) (σ0 : L2.St) (st : Bool) (W : Nat → Nat → Hp → Prop) (Q : VK) : Prop := ∀ i m H, W i m H →
  (J.stop i H ∧ Q (.bl (!st)) H) ∨ (J.go i H ∧ ∃ N : Hp → Prop, (∀ H', N H' → ∃ m', m' < m ∧ W (i + 1) m' H') ∧ ∀ x H', J.yld i H x H' → g x σ0 H' fun σ2 H2 => wipe σ2 vs = σ0 ∧ te σ2 H2 fun y H3 => ∃ b : Bool, y = .bl b ∧ if b = st then Q (.bl st) H3 else N H3)
theorem seg_gloop {Y : Cx} {tg iter elt : Expr} {scope : Scope} {pos : Pos} {Aw : Around} {it : Addr} {fp : List Addr} {tn : Nat → Heap → Prop} {J : It} {vs : List Nat} {σ0 : L2.St} {g : TG} {te : TE} {st : Bool} {Q : VK} {W : Nat → Nat → Hp → Prop}
    (hA : Aw.over (.compLoop (.GeneratorExp elt [⟨tg, iter, [], 0⟩] scope pos) 0 (.ref it) .none Y.env) [] = Y.A) (hxe : Y.xe = fun _ _ => False) (hc : Y.calm = true) (hco : Y.env.scope.isCoroutine = false)
    (T : Turn Y.prog Y.w Y.K tg J fp it tn) (hg : PG Y tg g) (he : PE Y elt te) (stat : ∀ {H' : Hp}, (∀ b ∈ fp, H' b = none) → ∀ b ∈ fp, FpOk Y [] H' b) (turn : GTurn J g te vs σ0 st W Q) :
    ∀ (n i m : Nat) (H : Hp) (s₀ s : Shared), m + 1 ≤ n → GSt Y fp tn σ0 i H s → W i m H →
      Seg (model Y.prog Y.w) Aw (RAll Y σ0 st Q) (YAll Y fp tn σ0 st Q) n s₀ (.compLoop (.GeneratorExp elt [⟨tg, iter, [], 0⟩] scope pos) 0 (.ref it) .none Y.env)
        ((model Y.prog Y.w).den (.compLoop (.GeneratorExp elt [⟨tg, iter, [], 0⟩] scope pos) 0 (.ref it) .none Y.env)) [] s := by
  have bad : ∀ {P : Prop} (x : Value) (s' : Shared), Y.xe x s' → P := fun x s' e => by rw [hxe] at e; exact e.elim
  intro n
  induction n with
  | zero => intro i m H s₀ s hm; omega
  | succ n ih =>
    intro i m H s₀ s hm G hw
    show Seg _ Aw _ _ _ s₀ _ ((compTurn (.GeneratorExp elt [⟨tg, iter, [], 0⟩] scope pos) 0 (.ref it) .none Y.env).onRaise (leaving Y.env)) [] s
    rw [compTurn_gen, Sem.onRaise_eq_wrap]
    refine seg_bind_wrap (wpAny_standAt ?_)
    rcases turn i m H hw with ⟨stop, q⟩ | ⟨go, N, hN, step⟩
    · refine seg_bind_wrap ?_
      rw [hA]
      refine wpAny_mono (T.done Y rfl rfl rfl hc i [] s σ0 H (fun _ _ => False) G.inv (stat G.fr) G.tn stop) (fun r s4 h4 => ?_) fun _ _ e => e.elim
      obtain ⟨hr, I4⟩ := h4
      subst hr
      exact seg_end (.ok .next) (.inl ⟨.inr rfl, H, I4, q⟩)
    · refine seg_bind_wrap ?_
      rw [hA]
      refine wpAny_mono (T.item Y rfl rfl rfl hc i [] s σ0 H (fun _ _ => False) G.inv (stat G.fr) G.tn go) (fun r s4 h4 => ?_) fun _ _ e => e.elim
      obtain ⟨u, hr, h4⟩ := h4
      subst hr
      refine seg_bind_wrap ?_
      rw [hA]
      refine wpAny_mono h4 (fun _ s5 h5 => ?_) fun _ _ e => e.elim
      obtain ⟨x, H5, I5, r5, y5, st5, fr5⟩ := h5
      have I5' := I5.pinned (stat fr5) (T.obj _ _ st5)
      refine seg_bind_wrap ?_
      rw [hA]
      refine wpAny_mono (hg.run _ s5 σ0 H5 x u _ I5' r5 (step x H5 y5)) (fun _ s6 h6 => ?_) fun x s' e => bad x s' e
      obtain ⟨σ6, H6, I6, hwp, q6⟩ := h6
      refine seg_bind_wrap ?_
      simp only [List.forIn_nil]
      refine wpAny_pure ?_
      simp only [if_true]
      have hy : ∀ v, yieldOut Y.env v = yieldValue v := fun v => by simp only [yieldOut, hco, Bool.false_eq_true, if_false]
      simp only [hy]
      rw [Sem.bind_eq_wrap', Sem.bind_eq_wrap', Sem.wrap_wrap, Sem.wrap_wrap]
      refine seg_wrap ?_
      rw [hA]
      refine wpAny_mono (he.run _ s6 σ6 H6 _ I6 q6) (fun y s7 h7 => ?_) fun x s' e => bad x s' e
      obtain ⟨yv, H7, I7, r7, b, rfl, q7⟩ := h7
      obtain rfl : y = Value.bool b := r7
      have I7' : Inv Y ([] ++ pinsAt fp s5.heap) σ0 H7 s7 := by
        rw [← hwp]
        exact I7.weak (wipe_length _ _) fun j v e => (wipe_some e).1
      have G7 : GSt Y fp tn σ0 (i + 1) H7 s7 := by
        refine ⟨I7'.unpinned, T.keep _ _ _ st5 fun b hb o e => (I7'.pin (b, o) (List.mem_append_right _ (List.mem_append_right _ (mem_pinsAt hb e)))).1, fun b hb => ?_⟩
        obtain ⟨o, e, d⟩ := T.obj _ _ st5 b hb
        exact (I7'.pin (b, o) (List.mem_append_right _ (List.mem_append_right _ (mem_pinsAt hb e)))).2.1
      refine seg_at (seg_yield rfl rfl rfl ⟨b, i + 1, H7, rfl, G7, ?_⟩)
      by_cases hb : b = st
      · rw [if_pos hb] at q7 ⊢
        exact q7
      · rw [if_neg hb] at q7 ⊢
        obtain ⟨m', hm', hw'⟩ := hN _ q7
        intro s' e1 e2 e3
        exact seg_again rfl (ih (i + 1) m' H7 s' s' (by omega) (G7.same e1 e2 e3) hw')
theorem seg_gstart {Y : Cx} {tg iter elt : Expr} {scope : Scope} {pos : Pos} {Aw : Around} {it : Addr} {fp : List Addr} {tn : Nat → Heap → Prop} {J : It} {vs : List Nat} {σ0 : L2.St} {g : TG} {te : TE} {st : Bool} {Q : VK} {W : Nat → Nat → Hp → Prop}
    (hA : Aw.over (.compLoop (.GeneratorExp elt [⟨tg, iter, [], 0⟩] scope pos) 0 (.ref it) .none Y.env) [] = Y.A) (hxe : Y.xe = fun _ _ => False) (hc : Y.calm = true) (hco : Y.env.scope.isCoroutine = false)
    (T : Turn Y.prog Y.w Y.K tg J fp it tn) (hg : PG Y tg g) (he : PE Y elt te) (stat : ∀ {H' : Hp}, (∀ b ∈ fp, H' b = none) → ∀ b ∈ fp, FpOk Y [] H' b) (turn : GTurn J g te vs σ0 st W Q)
    (n m : Nat) (H : Hp) (s₀ s : Shared) (hm : m + 1 ≤ n) (G : GSt Y fp tn σ0 0 H s) (hw : W 0 m H) :
      Seg (model Y.prog Y.w) Aw (RAll Y σ0 st Q) (YAll Y fp tn σ0 st Q) n s₀ (.compStart (.GeneratorExp elt [⟨tg, iter, [], 0⟩] scope pos) 0 (.ref it) .none Y.env)
        ((model Y.prog Y.w).den (.compStart (.GeneratorExp elt [⟨tg, iter, [], 0⟩] scope pos) 0 (.ref it) .none Y.env)) [] s := by
  have loop := seg_gloop (iter := iter) (scope := scope) (pos := pos) hA hxe hc hco T hg he stat turn n 0 m H s₀ s hm G hw
  show Seg _ Aw _ _ _ s₀ _ ((compStart (.GeneratorExp elt [⟨tg, iter, [], 0⟩] scope pos) 0 (.ref it) .none Y.env).onRaise (leaving Y.env)) [] s
  unfold compStart
  rw [Sem.onRaise_eq_wrap]
  show Seg _ Aw _ _ _ s₀ _ ((ask >>= _).wrap _ _ _ _) [] s
  refine seg_bind_wrap (wpAny_askSetting ?_)
  split
  · exact seg_again rfl loop
  · first
      | exact seg_bind_wrap (wpAny_rule (seg_bind_wrap (wpAny_standAt (seg_bind_wrap (T.self _ 0 s _ _ G.tn (seg_again rfl loop))))))
      | (refine seg_bind_wrap (wpAny_rule ?_); show Seg _ Aw _ _ _ s₀ _ ((standAt iter.pos >>= _).wrap _ _ _ _) [] s; exact seg_bind_wrap (wpAny_standAt (seg_bind_wrap (T.self _ 0 s _ _ G.tn (seg_again rfl loop)))))
end Hf
set_option Elab.async false
set_option maxRecDepth 100000
set_option maxHeartbeats 4000000
namespace Hf
open PySem L2 PySem.Spec PyProof.Rows GenW
section
variable {Y : Cx} {fp : List Addr} {tn : Nat → Heap → Prop} {σ0 : L2.St} {st : Bool} {Q : VK} {a : Addr} {g : Nat} {go : Obj}
/-- the generator sleeps, or has not begun -/
structure Slp (Y : Cx) (fp : List Addr) (tn : Nat → Heap → Prop) (σ0 : L2.St) (st : Bool) (Q : VK) (a : Addr) (g : Nat) (Aw : Around) (n : Nat) (s : Shared) : Prop where
  gen : s.heap.IsGen a g
  lim : s.heap.NoLimit
  goes : ∃ gs, s.gens[g]? = some gs ∧ gs.Goes (model Y.prog Y.w) Aw (RAll Y σ0 st Q) (YAll Y fp tn σ0 st Q) n (.send .none) (s.setGen g .running)
theorem next_all {B : Around} {n : Nat} {s : Shared} {Q' : Option Value → Shared → Prop} {E : Value → Shared → Prop} (hh : B.handled = none) (hd : B.depth < recursionLimit) (hpn : Y.pn = [(a, go)]) (hgo : ∀ h : Heap, h.get? a = some go → h.IsGen a g) (S : Slp Y fp tn σ0 st Q a g B.in1 n s)
    (hY : ∀ (b : Bool) (i : Nat) (H : Hp) (s' : Shared), GSt Y fp tn σ0 i H s' → (if b = st then Q (.bl st) H else ∃ m, n = m + 1 ∧ Slp Y fp tn σ0 st Q a g B.in1 m s') → Q' (some (.bool b)) s')
    (hP : ∀ (H : Hp) (s' : Shared), Inv Y [] σ0 H s' → Q (.bl (!st)) H → Q' none s') : wpAny (model Y.prog Y.w) B (pyNext (.ref a)) Q' E s := by
  obtain ⟨hg, hl, gs, hgs, hgo'⟩ := S
  have hgl : g < s.gens.size := (Array.getElem?_eq_some_iff.mp hgs).1
  refine wpAny_gsz (n := g + 1) hgl (next_genG (Er := fun _ _ => False) (F := fun _ _ s₁ => ∃ H, Inv Y [] σ0 H s₁ ∧ Q (.bl (!st)) H) hh hl hd hg hgs hgo' (fun v s₁ gs' hbare hv => ?_) (fun s₁ hp h' hk => ?_) fun e s₁ he => he.elim)
  · intro hsz
    obtain ⟨b, i, H, rfl, G, q⟩ := hv
    have G' : GSt Y fp tn σ0 i H (s₁.setGen g gs') := G.same rfl rfl (allBare_setGen G.inv.bare hbare)
    refine hY b i H _ G' ?_
    by_cases hb : b = st
    · rw [if_pos hb] at q ⊢
      exact q
    · rw [if_neg hb] at q ⊢
      have hsz1 : g < s₁.gens.size := by
        have q : (s₁.setGen g gs').gens.size = s₁.gens.size := setGen_size _ _ _
        have hsz' : g + 1 ≤ (s₁.setGen g gs').gens.size := hsz
        omega
      cases n with
      | zero => exact (q s₁ rfl rfl G.inv.bare).elim
      | succ m =>
        refine ⟨m, rfl, hgo _ (G'.inv.pin (a, go) (List.mem_append_left _ (by rw [hpn]; exact List.mem_singleton.mpr rfl))).1, G'.inv.nolimit, gs', setGen_at hsz1, ?_⟩
        exact q _ rfl rfl (allBare_setGen (s := s₁.setGen g gs') (allBare_setGen G.inv.bare hbare) rfl)
  · intro _
    obtain ⟨H, I, q⟩ := hp
    refine hP H _ ?_ q
    have I1 : Inv Y [] σ0 H (s₁.setGen g .finished) := inv_same I rfl rfl (allBare_setGen I.bare rfl)
    exact I1.kept (t' := (s₁.setGen g .finished).toks) hk
theorem all_loop {A : Around} {R : Result → Shared → Prop} (hh : A.handled = none) (hd : A.depth < recursionLimit) (hpn : Y.pn = [(a, go)]) (hgo : ∀ h : Heap, h.get? a = some go → h.IsGen a g)
    (hR : ∀ (b : Bool) (H : Hp) (s' : Shared), Inv Y [] σ0 H s' → Q (.bl b) H → R (.ok (.ret (.bool b))) s') :
    ∀ (n : Nat) (s : Shared), Slp Y fp tn σ0 false Q a g A.in1.in1 n s → codeAny (model Y.prog Y.w) A (.builtin "all.loop" ⟨[.ref a], []⟩) R s := by
  intro n
  induction n with
  | zero =>
    intro s S
    refine codeAny_builtin F.entry_all_loop ?_
    rw [Around.under_plainId F.plain_all_loop _]
    show wpAny _ A.in1 (pyNext (.ref a) >>= _) _ _ s
    refine wpAny_bind (next_all (B := A.in1) hh hd hpn hgo S (fun b i H s' G q => ?_) fun H s' I q => ?_)
    · by_cases hb : b = false
      · rw [if_pos hb] at q
        subst hb
        refine wpAny_bind (wpAny_holding (wpAny_truthy_bool ?_))
        refine wpAny_bind (wpAny_letGo ?_)
        simp only [Bool.false_eq_true, if_false]
        exact wpAny_bind (wpAny_rule (wpAny_pure (hR false H s' G.inv q)))
      · rw [if_neg hb] at q
        obtain ⟨m, e, _⟩ := q
        cases e
    · exact wpAny_bind (wpAny_rule (wpAny_pure (hR true H s' I q)))
  | succ n ih =>
    intro s S
    refine codeAny_builtin F.entry_all_loop ?_
    rw [Around.under_plainId F.plain_all_loop _]
    show wpAny _ A.in1 (pyNext (.ref a) >>= _) _ _ s
    refine wpAny_bind (next_all (B := A.in1) hh hd hpn hgo S (fun b i H s' G q => ?_) fun H s' I q => ?_)
    · refine wpAny_bind (wpAny_holding (wpAny_truthy_bool ?_))
      refine wpAny_bind (wpAny_letGo ?_)
      cases b with
      | false =>
        rw [if_pos rfl] at q
        simp only [Bool.false_eq_true, if_false]
        exact wpAny_bind (wpAny_rule (wpAny_pure (hR false H s' G.inv q)))
      | true =>
        rw [if_neg (by decide)] at q
        obtain ⟨m, e, S'⟩ := q
        cases e
        simp only [if_true]
        exact wpAny_pure ⟨plainId_quiet F.plain_all_loop _, ih _ S'⟩
    · exact wpAny_bind (wpAny_rule (wpAny_pure (hR true H s' I q)))
theorem any_loop {A : Around} {R : Result → Shared → Prop} (hh : A.handled = none) (hd : A.depth < recursionLimit) (hpn : Y.pn = [(a, go)]) (hgo : ∀ h : Heap, h.get? a = some go → h.IsGen a g)
    (hR : ∀ (b : Bool) (H : Hp) (s' : Shared), Inv Y [] σ0 H s' → Q (.bl b) H → R (.ok (.ret (.bool b))) s') :
    ∀ (n : Nat) (s : Shared), Slp Y fp tn σ0 true Q a g A.in1.in1 n s → codeAny (model Y.prog Y.w) A (.builtin "any.loop" ⟨[.ref a], []⟩) R s := by
  intro n
  induction n with
  | zero =>
    intro s S
    refine codeAny_builtin F.entry_any_loop ?_
    rw [Around.under_plainId F.plain_any_loop _]
    show wpAny _ A.in1 (pyNext (.ref a) >>= _) _ _ s
    refine wpAny_bind (next_all (B := A.in1) hh hd hpn hgo S (fun b i H s' G q => ?_) fun H s' I q => ?_)
    · by_cases hb : b = true
      · rw [if_pos hb] at q
        subst hb
        refine wpAny_bind (wpAny_holding (wpAny_truthy_bool ?_))
        refine wpAny_bind (wpAny_letGo ?_)
        simp only [if_true]
        exact wpAny_bind (wpAny_rule (wpAny_pure (hR true H s' G.inv q)))
      · rw [if_neg hb] at q
        obtain ⟨m, e, _⟩ := q
        cases e
    · exact wpAny_bind (wpAny_rule (wpAny_pure (hR false H s' I q)))
  | succ n ih =>
    intro s S
    refine codeAny_builtin F.entry_any_loop ?_
    rw [Around.under_plainId F.plain_any_loop _]
    show wpAny _ A.in1 (pyNext (.ref a) >>= _) _ _ s
    refine wpAny_bind (next_all (B := A.in1) hh hd hpn hgo S (fun b i H s' G q => ?_) fun H s' I q => ?_)
    · refine wpAny_bind (wpAny_holding (wpAny_truthy_bool ?_))
      refine wpAny_bind (wpAny_letGo ?_)
      cases b with
      | true =>
        rw [if_pos rfl] at q
        simp only [if_true]
        exact wpAny_bind (wpAny_rule (wpAny_pure (hR true H s' G.inv q)))
      | false =>
        rw [if_neg (by decide)] at q
        obtain ⟨m, e, S'⟩ := q
        cases e
        simp only [Bool.false_eq_true, if_false]
        exact wpAny_pure ⟨plainId_quiet F.plain_any_loop _, ih _ S'⟩
    · exact wpAny_bind (wpAny_rule (wpAny_pure (hR false H s' I q)))
end
end Hf
set_option Elab.async false
set_option maxRecDepth 100000
set_option maxHeartbeats 4000000
namespace Hf
open PySem L2 PySem.Spec PyProof.Rows GenW NdefX
section
variable {X : Cx} {pins : List (Addr × Obj)} {σ : L2.St} {H H5 : Hp} {s s5 : Shared} {scope : Scope} {own : List (Str × Nat)} {fp : List Addr} {pn : List (Addr × Obj)} {C : Addr} {cd : Value} {A : Around}
theorem gfree (I : Inv X pins σ H s) (ok : BlkOk X.N X.env.scope scope own) : ∀ y ∈ scope.names, y.2 = .free → ∃ c, X.env.cells.lookup y.1 = some c := fun y hy e => by
  rcases ok.free y hy e with k | k
  · exact I.ok.has _ (.inl k)
  · exact I.ok.has _ (.inr k)
theorem gex_start (I : Inv X pins σ H s) (I5 : Inv X pins σ H5 s5) (ok : BlkOk X.N X.env.scope scope own) (go : GOk scope) (hN : X.N.Nodup) (hfp : ∀ b ∈ fp, FpOk X pins H b ∧ b < s.heap.objs.size) (hC : s.heap.objs.size ≤ C) (hAh : A.handled = none)
    (hAf : A.frames = some (gEnv X scope C cd :: X.stack)) (un : Un (frs X.stack) fp H H5 s.heap s5.heap) (os : s5.os = s.os) (nsC : ∃ m, s5.heap.Ns C m)
    (hpn : ∀ p ∈ pn, s5.heap.get? p.1 = some p.2 ∧ H5 p.1 = none ∧ p.1 ≠ C ∧ p.1 ∉ frs X.stack ∧ ∀ v, p.2.data ≠ .cell v) (hC5 : H5 C = none) :
    Inv (gex X s H scope C cd A fp pn) [] (wipe σ (own.map (·.2))) H5 s5 := by
  have hfree := gfree I ok
  have cm : ∀ {y c}, (gEnv X scope C cd).cells.lookup y = some c → X.env.cells.lookup y = some c := fun {y c} e => clo_cm hfree e
  have nst : ∀ b ∈ fp, b ∉ frs X.stack := fun b hb z => by
    obtain ⟨⟨_, f1, f2, _⟩, _⟩ := hfp b hb
    rcases List.mem_cons.mp (I.stkSub b z) with z | z
    · exact f1 z
    · exact f2 z
  have okY : (gex X s H scope C cd A fp pn).Ok := by
    refine ⟨I.ok.mod, ok.kind, I.ok.glob, rfl, hC, fun y z c e1 e2 => I.ok.inj y z c (cm e1) (cm e2), fun y hy => ?_, fun y c z _ => (by cases z), fun _ => hAh, hAf, .inr ⟨rfl, rfl⟩, fun b hb => ⟨Nat.ne_of_lt (Nat.lt_of_lt_of_le (hfp b hb).2 hC), fun y c e z => (hfp b hb).1.2.2.2.2.1 y c (cm e) z⟩,
      I.bs, Nat.le_trans I.ok.bsz I.sz, fun b o e hb => ?_, nst, I.stack, I.stkFree⟩
    · have hy : scope.names.lookup y = some .cell ∨ scope.names.lookup y = some .free := hy
      rcases hy with hy | hy
      · exact absurd rfl (go.cell _ (PySem.mem_of_lookup hy))
      · obtain ⟨c, hc⟩ := hfree _ (PySem.mem_of_lookup hy) rfl
        exact ⟨c, clo_has hfree (PySem.mem_of_lookup hy) hc⟩
    · rcases (hfp b hb).1.2.2.2.1 with z | z
      · exact I.ok.noex b o e z
      · have h1 := Heap.lt_size e
        exact absurd (Nat.lt_of_lt_of_le h1 (Nat.le_trans I.ok.bsz z)) (Nat.lt_irrefl _)
  obtain ⟨m, hm⟩ := nsC
  refine ⟨okY, os, I5.bare, un, ⟨m, hm, fun i x v e1 e2 e3 => ?_⟩, fun x c e => I5.cell x c (cm e), hC5, fun x c e => I5.freeC x c (cm e), fun p hp => ?_, I5.hok, ?_⟩
  · obtain ⟨e4, ni⟩ := wipe_some e2
    have e3 : Vis scope x := e3
    rcases e3 with k | k | k
    · exfalso
      rcases ok.own _ (PySem.mem_of_lookup k) (.inl rfl) with q | q
      · obtain ⟨p, hp, ep⟩ := List.mem_map.mp q
        have ep : p.1 = x := ep
        have e5 := ok.ix p hp
        rw [ep] at e5
        exact ni (by rw [nodup_ix hN e1 e5]; exact List.mem_map_of_mem hp)
      · exact q (List.mem_of_getElem? e1)
    · exact absurd rfl (go.cell _ (PySem.mem_of_lookup k))
    · have hx := ok.free _ (PySem.mem_of_lookup k) rfl
      obtain ⟨m5, _, l5⟩ := I5.loc
      obtain ⟨u, ru, lk⟩ := l5 i x v e1 e4 (hx.elim (fun z => .inr (.inl z)) fun z => .inr (.inr z))
      refine ⟨u, ru, .inr ⟨.inr k, ?_⟩⟩
      rcases lk with ⟨z, _⟩ | ⟨_, c, hc, hcell⟩
      · have z : X.env.scope.names.lookup x = some .local := z
        have hx : X.env.scope.names.lookup x = some .cell ∨ X.env.scope.names.lookup x = some .free := hx
        rw [z] at hx
        rcases hx with q | q <;> cases q
      · exact ⟨c, clo_has hfree (PySem.mem_of_lookup k) hc, hcell⟩
  · rcases List.mem_append.mp hp with z | z
    · exact hpn p z
    · cases z
  · rw [wipe_length]
    exact I5.len
theorem gex_stat (I : Inv X pins σ H s) (ok : BlkOk X.N X.env.scope scope own) (hfp : ∀ b ∈ fp, FpOk X pins H b ∧ b < s.heap.objs.size) (hC : s.heap.objs.size ≤ C) (hpn : ∀ p ∈ pn, s.heap.objs.size ≤ p.1) {H' : Hp} (hn : ∀ b ∈ fp, H' b = none) :
    ∀ b ∈ fp, FpOk (gex X s H scope C cd A fp pn) [] H' b := fun b hb => by
  obtain ⟨⟨_, f1, f2, _, f4, _⟩, lt⟩ := hfp b hb
  refine ⟨hn b hb, Nat.ne_of_lt (Nat.lt_of_lt_of_le lt hC), fun z => ?_, .inl hb, fun x c e z => f4 x c (clo_cm (gfree I ok) e) z, fun p hp z => ?_⟩
  · rcases List.mem_cons.mp (I.stkSub b z) with z | z
    · exact f1 z
    · exact f2 z
  · rcases List.mem_append.mp hp with q | q
    · have := hpn p q
      rw [z] at this
      exact absurd (Nat.lt_of_lt_of_le lt this) (Nat.lt_irrefl _)
    · cases q
abbrev tblO' (ps : Array Value) : Obj := { cls := .none, data := .fields ps }
theorem code_step0 {c T : Addr} {ps : Array Value} {scope : Scope} {gpos : Pos} {q : Str} {R : Value → Addr → Shared → Prop} {E : Value → Shared → Prop} (TB : GxR.TabB X.base X.mg c T) (hcode : X.env.code = .ref c) (I : Inv X pins σ H s)
    (hT : H T = some (.tbl ps)) (tr : TriplesOk ps.toList)
    (k : ∀ (cd : Value) (g : Heap) (tk : Nat) (qs : Array Value), Heap.ExtBut T s.heap g → s.heap.objs.size ≤ g.objs.size → g.get? T = some (tblO' qs) → (∃ more, qs = ps ++ more) → TriplesOk qs.toList → R cd builtinsNs { s with heap := g, toks := tk }) :
    wpAny (model X.prog X.w) X.A (genexprCode X.env gpos q scope) (fun cd s3 => wpAny (model X.prog X.w) X.A (builtinsFor X.env.globals X.env.builtins) (fun bi s4 => R cd bi s4) E s3) E s := by
  have hTs : s.heap.get? T = some (tblO' ps) := I.hok T _ hT
  have CH := TB.code.keeps I.bk
  obtain ⟨bm, oo, b1, b2, b3, b4, b5, b6, b7, b8⟩ := TB.bm
  have fin : ∀ (cd : Value) (g : Heap) (tk : Nat) (qs : Array Value), Heap.ExtBut T s.heap g → s.heap.objs.size ≤ g.objs.size → g.get? T = some (tblO' qs) → (∃ more, qs = ps ++ more) → TriplesOk qs.toList →
      wpAny (model X.prog X.w) X.A (builtinsFor X.env.globals X.env.builtins) (fun bi s4 => R cd bi s4) E { s with heap := g, toks := tk } := fun cd g tk qs ex sz e more tq => by
    have gl : g.Ns X.env.globals X.mg := by
      rw [I.ok.glob]
      exact (I.mod.glob.keeps I.bk).extBut ex TB.gP
    exact wpAny_builtinsFor (m := X.mg) gl b1 b2 (ex bm oo b4 (I.bk _ _ b5)) b6 b7 b8 (k cd g tk qs ex sz e more tq)
  cases found : codeAmong gpos ps.toList with
  | some cv => exact wpAny_genexprCode_hit hcode (CH.code hTs tr) found (fin cv _ s.toks ps (Heap.ExtBut.refl _ _) (Nat.le_refl _) hTs ⟨#[], by simp⟩ tr)
  | none =>
    refine wpAny_genexprCodeX hcode (CH.code hTs tr) (CH.tab hTs) found fun c2 g tk ex g1 g2 isC _ isT _ => ?_
    obtain ⟨_, _, _, _, _, _, _, _, _, _, _, _, _, _, _, _, _, _, _, tq, _⟩ := isC
    exact fin (.ref c2) g tk _ ex (Nat.le_trans g1 (Nat.le_of_lt g2)) isT.2 ⟨_, rfl⟩ tq
def tGen (T : Addr) (st : Bool) (wi : TI) (g : TG) (te : TE) (vs : List Nat) : TE := fun σ H Q => wi σ H fun J H1 => GxR.TabG H1 T ∧ ∃ W : Nat → Nat → Hp → Prop, (∀ H2, GxR.Tabbed T H1 H2 → ∃ m, W 0 m H2) ∧ GTurn J g te vs (wipe σ vs) st W Q
/-- what the two share: the generator made, ready to be walked -/
theorem gen_any {c T : Addr} {elt iter tg : Expr} {gpos : Pos} {wi : TI} {g : TG} {te : TE} {k : Nat} {st : Bool} {Q : VK} {Q' : Value → Shared → Prop} (hr : Room (k + 1) X.A) (TB : GxR.TabB X.base X.mg c T) (hcode : X.env.code = .ref c) (hN : X.N.Nodup) (ok : BlkOk X.N X.env.scope scope own) (go : GOk scope)
    (hi : PI X tg iter wi) (hg : ∀ (s : Shared) (H : Hp) (C : Addr) (cd : Value) (A : Around) (fp : List Addr) (pn : List (Addr × Obj)), Room k A → PG (gex X s H scope C cd A fp pn) tg g)
    (he : ∀ (s : Shared) (H : Hp) (C : Addr) (cd : Value) (A : Around) (fp : List Addr) (pn : List (Addr × Obj)), Room k A → PE (gex X s H scope C cd A fp pn) elt te) (hs : ∀ v, genFold iter X.env v = pure v) (I : Inv X pins σ H s) (h : tGen T st wi g te (own.map (·.2)) σ H Q)
    (hQ : ∀ (Y : Cx) (fp : List Addr) (tn : Nat → Heap → Prop) (a : Addr) (gg : Nat) (o : Obj) (n : Nat) (s5 : Shared), Y.prog = X.prog → Y.w = X.w → Y.pn = [(a, o)] → (∀ h : Heap, h.get? a = some o → h.IsGen a gg) → Slp Y fp tn (wipe σ (own.map (·.2))) st Q a gg X.A.in1.in1 n s5 →
      (∀ (H' : Hp) (s' : Shared), Inv Y [] (wipe σ (own.map (·.2))) H' s' → Inv X pins σ H' s') → Q' (.ref a) s5) :
    wpAny (model X.prog X.w) X.A (eval (.GeneratorExp elt [⟨tg, iter, [], 0⟩] scope gpos) X.env) Q' X.xe s := by
  refine wpAny_GeneratorExp_make go.co (closure_ok (gfree I ok)) go.cell go.dot ok.kind (by have := hr.dp; omega) ?_ hs
  refine thn (hi.run pins s σ H _ I h) fun v s1 h1 => thn h1 fun itv s2 h2 => ?_
  obtain ⟨it, fp, tn, J, H2, rfl, I2, Tn, st2, f2, ⟨ps, hT, tr⟩, W, w0, turn⟩ := h2
  refine ⟨I2.nolimit, code_step0 (q := X.env.qual ++ "<genexpr>") TB hcode I2 hT tr fun cd g4 tk qs ex sz eT more tq => ?_⟩
  intro h' hn' hs'
  replace hs' : Heap.SameBut g4.objs.size (g4.push { cls := .type "frame", data := .dict #[] }) h' := hs'
  have hsz : h'.objs.size = g4.objs.size + 1 := by rw [hs'.1, Heap.size_push]
  obtain ⟨more, em⟩ := more
  have up4 : ∀ b o, g4.get? b = some o → h'.get? b = some o := fun b o e => hs'.extBut b o (Nat.ne_of_lt (Heap.lt_size e)) (Heap.get?_push_of_some _ e)
  have up5 : ∀ {ob : Obj} b o, g4.get? b = some o → (h'.push ob).get? b = some o := fun {ob} b o e => Heap.get?_push_of_some _ (up4 b o e)
  have old : ∀ {ob : Obj} b o, b ≠ T → s2.heap.get? b = some o → (h'.push ob).get? b = some o := fun {ob} b o hb e => up5 b o (ex b o hb e)
  have nT : ∀ b, H2 b = none → b ≠ T := fun b e z => by rw [z, hT] at e; cases e
  have sz5 : s2.heap.objs.size ≤ h'.objs.size := by omega
  -- the generator's object
  have main : ∀ (go5 : Obj) (t5 : Nat) (nm qn : Value), go5.cls = .type "generator" → go5.data = .fields #[.int s2.gens.size 0, nm, qn] → go5.slots = #[] → (∀ h : Heap, (h.push go5).get? h.objs.size = some go5) →
      Q' (.ref h'.objs.size) { s2 with gens := s2.gens.push (.fresh (.compStart (.GeneratorExp elt [⟨tg, iter, [], 0⟩] scope gpos) 0 (.ref it) .none (genEnv scope (cloFrom X.env.cells scope.names []) g4.objs.size cd builtinsNs X.env))), toks := t5, heap := h'.push go5 } := by
    intro go5 t5 nm qn hc5 hd5 hsl5 hp5
    have hgen : ∀ h : Heap, h.get? h'.objs.size = some go5 → h.IsGen h'.objs.size s2.gens.size := fun h e => ⟨go5, nm, qn, e, hc5, hd5, hsl5⟩
    generalize hs5 : ({ s2 with gens := s2.gens.push (.fresh (.compStart (.GeneratorExp elt [⟨tg, iter, [], 0⟩] scope gpos) 0 (.ref it) .none (genEnv scope (cloFrom X.env.cells scope.names []) g4.objs.size cd builtinsNs X.env))), toks := t5, heap := h'.push go5 } : Shared) = s5
    have h5 : s5.heap = h'.push go5 := by rw [← hs5]
    have o5 : s5.os = s2.os := by rw [← hs5]
    have I5 : Inv X pins σ (upd H2 T (.tbl (ps ++ more))) s5 := by
      rw [← hs5]
      exact GxR.inv_tab (d' := s2.drawn) I2 hT (fun b o hb e => old b o hb e) (by rw [← em]; exact up5 T _ eT) (I2.bare.push rfl)
    have tabd : GxR.Tabbed T H2 (upd H2 T (.tbl (ps ++ more))) := ⟨⟨ps ++ more, upd_same, by rw [← em]; exact tq⟩, fun b hb => upd_ne hb⟩
    obtain ⟨m0, w0'⟩ := w0 _ tabd
    have hfp : ∀ b ∈ fp, FpOk X pins H2 b ∧ b < s2.heap.objs.size := fun b hb => ⟨f2 b hb, by
      obtain ⟨o, e, _⟩ := Tn.obj _ _ st2 b hb
      exact Heap.lt_size e⟩
    have ntbl : ∀ b u, H2 b = some u → (∀ q, u ≠ .tbl q) → b ≠ T := fun b u e q z => by
      rw [z, hT] at e
      exact q ps (Option.some.inj e).symm
    have un : Un (frs X.stack) fp H2 (upd H2 T (.tbl (ps ++ more))) s2.heap s5.heap := by
      rw [h5]
      refine ⟨fun b o e n _ _ => old b o (nT b n) e, fun b o e n _ _ => ⟨o.slots, old b o (nT b n) e⟩, fun b o e n _ => by rw [upd_ne (nT b n)]; exact n, fun b o e _ => ?_, fun b xs e => by rw [upd_ne (ntbl b _ e fun q z => by cases z)]; exact e, fun b o u e => by rw [upd_ne (ntbl b _ e fun q z => by cases z)]; exact e, fun b qs2 e => ?_⟩
      · by_cases hb : b = T
        · rw [hb]
          exact ⟨_, up5 T _ eT⟩
        · exact ⟨o, old b o hb e⟩
      · by_cases hb : b = T
        · rw [hb, hT] at e
          cases e
          rw [hb, upd_same]
          exact ⟨more, rfl⟩
        · rw [upd_ne hb, e]
          exact ⟨#[], by simp⟩
    have fresh5 : ∀ b, s2.heap.objs.size ≤ b → upd H2 T (.tbl (ps ++ more)) b = none := fun b hb => by
      have n := I2.hok.fresh hb
      rw [upd_ne (nT b n)]
      exact n
    have Aw : (X.A.in1.in1.over (.compLoop (.GeneratorExp elt [⟨tg, iter, [], 0⟩] scope gpos) 0 (.ref it) .none (gEnv X scope g4.objs.size cd)) []).frames = some (gEnv X scope g4.objs.size cd :: X.stack) := by
      have e : X.A.in1.in1.frames = some X.stack := I2.ok.frames
      show pushEnvs [gEnv X scope g4.objs.size cd] (pushEnvs [] X.A.in1.in1.frames) = _
      rw [e]
      rfl
    have rA : Room k (X.A.in1.in1.over (.compLoop (.GeneratorExp elt [⟨tg, iter, [], 0⟩] scope gpos) 0 (.ref it) .none (gEnv X scope g4.objs.size cd)) []) := by
      refine ⟨hr.hd, ?_, ?_⟩
      · have := hr.dp
        show X.A.depth + 0 + 1 + 3 * k + 5 < _
        omega
      · have := hr.un
        show X.A.units + 1 + 1 + 0 + 3 + 16 * k + 200 < _
        omega
    have pnh : ∀ p ∈ [(h'.objs.size, go5)], s2.heap.objs.size ≤ p.1 := fun p hp => by
      rw [List.mem_singleton.mp hp]
      exact sz5
    have J5 : Inv (gex X s2 H2 scope g4.objs.size cd (X.A.in1.in1.over (.compLoop (.GeneratorExp elt [⟨tg, iter, [], 0⟩] scope gpos) 0 (.ref it) .none (gEnv X scope g4.objs.size cd)) []) fp [(h'.objs.size, go5)]) [] (wipe σ (own.map (·.2))) (upd H2 T (.tbl (ps ++ more))) s5 := by
      refine gex_start I2 I5 ok go hN hfp sz hr.hd Aw un o5 ⟨_, by rw [h5]; exact hn'.push _⟩ (fun p hp => ?_) (fresh5 _ sz)
      rw [List.mem_singleton.mp hp]
      refine ⟨by rw [h5]; exact hp5 _, fresh5 _ sz5, by show h'.objs.size ≠ g4.objs.size; omega, fun z => ?_, fun v z => by rw [hd5] at z; cases z⟩
      have hz := I2.stkSub _ z
      rcases List.mem_cons.mp hz with z | z
      · have := I2.lt
        rw [← z] at this
        exact absurd (Nat.lt_of_lt_of_le this sz5) (Nat.lt_irrefl _)
      · exact I2.nofs sz5 z
    have G5 : GSt (gex X s2 H2 scope g4.objs.size cd (X.A.in1.in1.over (.compLoop (.GeneratorExp elt [⟨tg, iter, [], 0⟩] scope gpos) 0 (.ref it) .none (gEnv X scope g4.objs.size cd)) []) fp [(h'.objs.size, go5)]) fp tn (wipe σ (own.map (·.2))) 0 (upd H2 T (.tbl (ps ++ more))) s5 := by
      refine ⟨J5, Tn.keep _ _ _ st2 fun b hb o e => by rw [h5]; exact old b o (nT b (f2 b hb).1) e, fun b hb => ?_⟩
      rw [upd_ne (nT b (f2 b hb).1)]
      exact (f2 b hb).1
    refine hQ (gex X s2 H2 scope g4.objs.size cd (X.A.in1.in1.over (.compLoop (.GeneratorExp elt [⟨tg, iter, [], 0⟩] scope gpos) 0 (.ref it) .none (gEnv X scope g4.objs.size cd)) []) fp [(h'.objs.size, go5)]) fp tn h'.objs.size s2.gens.size go5 (m0 + 1) s5 rfl rfl rfl hgen ⟨hgen _ (by rw [h5]; exact hp5 _), I5.nolimit, .fresh (.compStart (.GeneratorExp elt [⟨tg, iter, [], 0⟩] scope gpos) 0 (.ref it) .none (gEnv X scope g4.objs.size cd)), by rw [← hs5]; exact Array.getElem?_push_size .., rfl, ?_⟩ fun H' s' J => ?_
    · have G6 := G5.same (s' := s5.setGen s2.gens.size .running) rfl rfl (allBare_setGen J5.bare rfl)
      exact seg_gstart (Y := gex X s2 H2 scope g4.objs.size cd (X.A.in1.in1.over (.compLoop (.GeneratorExp elt [⟨tg, iter, [], 0⟩] scope gpos) 0 (.ref it) .none (gEnv X scope g4.objs.size cd)) []) fp [(h'.objs.size, go5)]) rfl rfl rfl go.co Tn (hg _ _ _ _ _ _ _ rA) (he _ _ _ _ _ _ _ rA) (gex_stat I2 ok hfp sz pnh) turn (m0 + 1) m0 _ _ _ (Nat.le_refl _) G6 w0'
    · exact I2.call' J.os J.base J.hok J.bare fun b hb => by
        obtain ⟨_, q1, _, q3, q4, q5⟩ := f2 b hb
        exact ⟨q3, q1, q4, q5⟩
  exact main _ _ _ _ rfl rfl rfl fun h => Heap.get?_push_size _ rfl
end
end Hf
set_option Elab.async false
set_option maxRecDepth 100000
set_option maxHeartbeats 4000000
namespace Hf
open PySem L2 PySem.Spec PyProof.Rows GenW NdefX
/-! ### the forms one uses -/
theorem g_list {K : PySem.W.Frag} {T a : Addr} {xs : List V} {g : TG} {te : TE} {vs : List Nat} {σ0 : L2.St} {st : Bool} {Q : VK} {H1 : Hp} (Pv : Nat → Hp → Prop) (h0 : ∀ H2, GxR.Tabbed T H1 H2 → Pv 0 H2) (hl : ∀ i H, i ≤ xs.length → Pv i H → SqL K H a xs)
    (hs : ∀ i x H, xs[i]? = some x → Pv i H → g x σ0 H fun σ2 H2 => wipe σ2 vs = σ0 ∧ te σ2 H2 fun y H3 => ∃ b : Bool, y = .bl b ∧ if b = st then Q (.bl st) H3 else Pv (i + 1) H3) (hd : ∀ H, Pv xs.length H → Q (.bl (!st)) H) :
    ∃ W : Nat → Nat → Hp → Prop, (∀ H2, GxR.Tabbed T H1 H2 → ∃ m, W 0 m H2) ∧ GTurn (Itl K a) g te vs σ0 st W Q := by
  refine ⟨fun i m H => m = xs.length - i ∧ i ≤ xs.length ∧ Pv i H, fun H2 h => ⟨_, rfl, Nat.zero_le _, h0 H2 h⟩, ?_⟩
  rintro i m H ⟨rfl, hi, p⟩
  have q := hl i H hi p
  by_cases hlt : i < xs.length
  · refine .inr ⟨⟨xs, xs[i], q, by simp [hlt]⟩, Pv (i + 1), fun H' p' => ⟨xs.length - (i + 1), by omega, rfl, hlt, p'⟩, fun x H' y => ?_⟩
    obtain ⟨e, y⟩ := y
    subst e
    exact hs i x H' (y xs q) p
  · have : i = xs.length := by omega
    subst this
    exact .inl ⟨⟨xs, q, Nat.le_refl _⟩, hd H p⟩
theorem g_range {T : Addr} {lo : Int} {n : Nat} {g : TG} {te : TE} {vs : List Nat} {σ0 : L2.St} {st : Bool} {Q : VK} {H1 : Hp} (Pv : Nat → Hp → Prop) (h0 : ∀ H2, GxR.Tabbed T H1 H2 → Pv 0 H2)
    (hs : ∀ i H, i < n → Pv i H → g (.int (lo + i)) σ0 H fun σ2 H2 => wipe σ2 vs = σ0 ∧ te σ2 H2 fun y H3 => ∃ b : Bool, y = .bl b ∧ if b = st then Q (.bl st) H3 else Pv (i + 1) H3) (hd : ∀ H, Pv n H → Q (.bl (!st)) H) :
    ∃ W : Nat → Nat → Hp → Prop, (∀ H2, GxR.Tabbed T H1 H2 → ∃ m, W 0 m H2) ∧ GTurn (Itr lo n) g te vs σ0 st W Q := by
  refine ⟨fun i m H => m = n - i ∧ i ≤ n ∧ Pv i H, fun H2 h => ⟨_, rfl, Nat.zero_le _, h0 H2 h⟩, ?_⟩
  rintro i m H ⟨rfl, hi, p⟩
  by_cases hlt : i < n
  · refine .inr ⟨hlt, Pv (i + 1), fun H' p' => ⟨n - (i + 1), by omega, rfl, hlt, p'⟩, fun x H' y => ?_⟩
    obtain ⟨e, y⟩ := y
    subst e
    subst y
    exact hs i H' hlt p
  · have : i = n := by omega
    subst this
    exact .inl ⟨Nat.le_refl _, hd H p⟩
section
variable {X : Cx} {scope : Scope} {own : List (Str × Nat)} {c T : Addr} {elt iter tg : Expr} {gpos p pos : Pos} {wi : TI} {g : TG} {te : TE} {k : Nat}
theorem pe_allG (hr : Room (k + 1) X.A) (hgl : Gl X "all") (hm : X.mg "all" = none) (TB : GxR.TabB X.base X.mg c T) (hcode : X.env.code = .ref c) (hN : X.N.Nodup) (ok : BlkOk X.N X.env.scope scope own) (go : GOk scope)
    (hi : PI X tg iter wi) (hg : ∀ (s : Shared) (H : Hp) (C : Addr) (cd : Value) (A : Around) (fp : List Addr) (pn : List (Addr × Obj)), Room k A → PG (gex X s H scope C cd A fp pn) tg g)
    (he : ∀ (s : Shared) (H : Hp) (C : Addr) (cd : Value) (A : Around) (fp : List Addr) (pn : List (Addr × Obj)), Room k A → PE (gex X s H scope C cd A fp pn) elt te) (hs : ∀ v, genFold iter X.env v = pure v := by intro v; rfl)
    (hse : starEach [.GeneratorExp elt [⟨tg, iter, [], 0⟩] scope gpos] X.env = (false, eval (.GeneratorExp elt [⟨tg, iter, [], 0⟩] scope gpos) X.env) :: starEach [] X.env := by rfl) :
    PE X (.Call (.Name "all" p) [.GeneratorExp elt [⟨tg, iter, [], 0⟩] scope gpos] [] pos) (tGen T false wi g te (own.map (·.2))) := by
  refine ⟨fun pins s σ H Q I h => ?_⟩
  refine wpAny_Call_Name_kw (ld_blt I hgl hm boot_all (PyProof.Rows.callWith_builtin1 ?_ hse (by rfl)))
  rw [hse]
  refine Calls.spliced_cons (gen_any hr TB hcode hN ok go hi hg he hs I h fun Y fp tn a gg o n s5 e1 e2 hpn hgo S back => ?_)
  refine Calls.spliced_nil ?_
  refine call_function_tree F.kind_all F.plain_all F.entry_all (F.args_all1 _) ?_
  unfold Builtin.«all»
  refine wpAny_bind (m := oneArg "all" _) (wpAny_pure ?_)
  refine wpAny_bind (wpAny_pyIter_gen S.gen ?_)
  refine wpAny_pure ⟨plainId_quiet F.plain_all_loop _, ?_⟩
  rw [← e1, ← e2]
  refine all_loop hr.hd (by have := hr.dp; omega) hpn hgo (fun b H' s' J q => ?_) n s5 S
  exact ⟨.bl b, H', back H' s' J, rfl, q⟩
theorem pe_anyG (hr : Room (k + 1) X.A) (hgl : Gl X "any") (hm : X.mg "any" = none) (TB : GxR.TabB X.base X.mg c T) (hcode : X.env.code = .ref c) (hN : X.N.Nodup) (ok : BlkOk X.N X.env.scope scope own) (go : GOk scope)
    (hi : PI X tg iter wi) (hg : ∀ (s : Shared) (H : Hp) (C : Addr) (cd : Value) (A : Around) (fp : List Addr) (pn : List (Addr × Obj)), Room k A → PG (gex X s H scope C cd A fp pn) tg g)
    (he : ∀ (s : Shared) (H : Hp) (C : Addr) (cd : Value) (A : Around) (fp : List Addr) (pn : List (Addr × Obj)), Room k A → PE (gex X s H scope C cd A fp pn) elt te) (hs : ∀ v, genFold iter X.env v = pure v := by intro v; rfl)
    (hse : starEach [.GeneratorExp elt [⟨tg, iter, [], 0⟩] scope gpos] X.env = (false, eval (.GeneratorExp elt [⟨tg, iter, [], 0⟩] scope gpos) X.env) :: starEach [] X.env := by rfl) :
    PE X (.Call (.Name "any" p) [.GeneratorExp elt [⟨tg, iter, [], 0⟩] scope gpos] [] pos) (tGen T true wi g te (own.map (·.2))) := by
  refine ⟨fun pins s σ H Q I h => ?_⟩
  refine wpAny_Call_Name_kw (ld_blt I hgl hm boot_any (PyProof.Rows.callWith_builtin1 ?_ hse (by rfl)))
  rw [hse]
  refine Calls.spliced_cons (gen_any hr TB hcode hN ok go hi hg he hs I h fun Y fp tn a gg o n s5 e1 e2 hpn hgo S back => ?_)
  refine Calls.spliced_nil ?_
  refine call_function_tree F.kind_any F.plain_any F.entry_any (F.args_any1 _) ?_
  unfold Builtin.«any»
  refine wpAny_bind (m := oneArg "any" _) (wpAny_pure ?_)
  refine wpAny_bind (wpAny_pyIter_gen S.gen ?_)
  refine wpAny_pure ⟨plainId_quiet F.plain_any_loop _, ?_⟩
  rw [← e1, ← e2]
  refine any_loop hr.hd (by have := hr.dp; omega) hpn hgo (fun b H' s' J q => ?_) n s5 S
  exact ⟨.bl b, H', back H' s' J, rfl, q⟩
end
end Hf
set_option Elab.async false
set_option maxRecDepth 100000
set_option maxHeartbeats 4000000
namespace Hf
open PySem L2 PySem.Spec PyProof.Rows
/-! ## sorted(set(xs)), xs a list of ints of any length -/
theorem nodup_le : ∀ {xs ys : List Int}, xs.Nodup → (∀ k, k ∈ xs → k ∈ ys) → xs.length ≤ ys.length
  | [], _, _, _ => Nat.zero_le _
  | x :: xs, ys, hn, h => by
    obtain ⟨hx, hn⟩ := List.nodup_cons.mp hn
    have m := h x List.mem_cons_self
    have ih := nodup_le (xs := xs) (ys := ys.erase x) hn fun k hk => (List.mem_erase_of_ne (fun e => hx (by rw [← e]; exact hk))).mpr (h k (List.mem_cons_of_mem _ hk))
    rw [List.length_erase_of_mem m] at ih
    have := List.length_pos_of_mem m
    rw [List.length_cons]
    omega
section
variable {P : Program} {w : World} {A : Around} {E : Value → Shared → Prop} {s : Shared}
abbrev oSet (w : World) : Obj := { cls := .type "set", dict := none, data := .set #[] 0 (.fresh 0 0 (!w.params.followText "set-order")) }
theorem iset_init {l a : Addr} {its : Array Value} {ns : List Int} (hh : A.handled = none) (hl : s.heap.IsList l its) (ha : s.heap.get? a = some (oSet w)) (last : s.heap.objs.size = a + 1) (hi : IntsAre its.toList ns) (room : ns.length + 1 < scanBound) :
    codeAny (model P w) A (.call (.builtin "set.__init__") ⟨[.ref a, .ref l], []⟩)
      (wants (fun r s2 => r = .none ∧ ∃ g tk c, s2 = { s with heap := g, toks := tk } ∧ SetR w g a (fun j => decide (j ∈ ns)) c ∧ c ≤ ns.length ∧ ∀ b o, b < a → s.heap.get? b = some o → g.get? b = some o) E) s := by
  have ty : Shared.TypeIs s (.ref a) "set" := ⟨_, ha, rfl⟩
  have sz : its.size = ns.length := by
    have q := IntsAre.length hi
    rwa [Array.length_toList] at q
  have la : l ≠ a := fun z => by
    obtain ⟨o, e, c, _⟩ := hl
    rw [z, ha] at e
    have c2 : (oSet w).cls = .type "list" := by rw [Option.some.inj e]; exact c
    exact absurd (show Value.type "set" = Value.type "list" from c2) (by decide)
  refine codeAny_call_builtin PySem.F.called_set.init.plain PySem.F.entry_set_init (check_set_init_1 ty ?_)
  obtain ⟨⟨cl, dd, da, sl⟩, ho, hc, nl, hd⟩ := id hl
  simp only at hc hd
  subst hc hd
  have k1 := PySem.F.sub_list_set
  have k2 := PySem.F.sub_list_frozenset
  have k3 : (Value.type "list" == Value.type "dict") = false := by decide
  unfold Builtin.«set.__init__» noKeywords Builtin.Frozenset.updateFrom
  generalize hit : pyIter = itr
  wp_walk
  subst hit
  refine wpAny_pyIter_list hl (wpAny_bind (wpAny_runValue ?_))
  have ll : l < s.heap.objs.size := Heap.lt_size ho
  have al : a < s.heap.objs.size := Heap.lt_size ha
  have far : a ∉ [s.heap.objs.size, l] := fun z => by
    rcases List.mem_cons.mp z with z | z
    · exact Nat.ne_of_lt al z
    · exact la (List.mem_singleton.mp z).symm
  have val : ∀ (i : Nat) (v : Value), its[i]? = some v → ∃ k t, ns[i]? = some k ∧ v = .int k t := fun i v hv => by
    have il : i < ns.length := by rw [← sz]; exact (Array.getElem?_eq_some_iff.mp hv).1
    obtain ⟨t, e⟩ := PyProof.Rows.IntsAre.int_at hi i v (by rw [Array.getElem?_toList]; exact hv)
    refine ⟨ns[i], t, List.getElem?_eq_getElem il, ?_⟩
    rw [e, List.getD_eq_getElem?_getD, List.getElem?_eq_getElem il] <;> rfl
  refine set_update_ints (n := its.size) ((Walks.list (A := A.in1.in1) (by simp [hh]) s.heap.objs.size l (Nat.ne_of_lt ll) its).toS) a far ns sz room val its.size 0 _ (by omega) (Nat.zero_le _) ⟨⟨_, Heap.get?_push_size _ rfl, rfl, rfl⟩, hl.push _⟩ ⟨0, Nat.le_refl 0, setR_new_at (Heap.get?_push_of_some _ ha)⟩ fun s3 c mv hc S3 => ?_
  obtain ⟨g3, gg, dr, tk, os⟩ := s3
  obtain rfl : gg = s.gens := mv.gens
  obtain rfl : dr = s.drawn := mv.drawn
  obtain rfl : os = s.os := mv.os
  refine wpAny_pure (wpAny_pure ⟨rfl, g3, tk, c, rfl, S3, by omega, fun b o hb e => mv.heap b o (fun z => ?_) (Heap.get?_push_of_some _ e)⟩)
  rcases List.mem_cons.mp z with z | z
  · exact Nat.ne_of_lt hb z
  · have z2 := List.mem_singleton.mp z
    have z3 : b < s.heap.objs.size := Heap.lt_size e
    rw [z2] at z3
    exact Nat.lt_irrefl _ z3
theorem iset_of {l : Addr} {its : Array Value} {ns : List Int} {Q : Value → Shared → Prop} (hh : A.handled = none) (hl : s.heap.IsList l its) (hi : IntsAre its.toList ns) (room : ns.length + 1 < scanBound)
    (hQ : ∀ (g : Heap) (tk c : Nat), SetR w g s.heap.objs.size (fun j => decide (j ∈ ns)) c → c ≤ ns.length → (∀ b o, s.heap.get? b = some o → g.get? b = some o) → Q (.ref s.heap.objs.size) { s with heap := g, toks := tk }) :
    wpAny (model P w) A (call (.type "set") [.ref l]) Q E s := by
  obtain ⟨c, tl, hmro⟩ := PySem.F.called_set.mro
  have m1 := PySem.F.called_set.made
  have m2 := PySem.F.called_set.sub
  have m3 := PySem.F.called_set.notType
  have m4 := PySem.F.called_set.canCreate
  have m5 := PySem.F.typeCall_set_1 (.ref l)
  refine wpAny_call (codeAny_of_tree (wpAny_pure (a := Fin.again _) ⟨Code.quiet_builtin _ (by decide +kernel), codeAny_builtin PySem.F.entry_type_call ?_⟩))
  rw [Around.under_plain (weight_type_call_type "set" [.ref l] []) rfl]
  repeat (any_goals (first | assumption | wp_step))
  refine codeAny_mono (code_set_led1 (.ref l) (E := E) (Q₁ := fun o s1 => o = .ref s.heap.objs.size ∧ s1 = { s with heap := s.heap.push (oSet w) }) ⟨rfl, rfl⟩) fun r s1 hr => ?_
  rcases r with e | fl
  · exact hr
  cases fl with
  | ret o =>
    obtain ⟨rfl, rfl⟩ := hr
    have ha : (s.heap.push (oSet w)).get? s.heap.objs.size = some (oSet w) := Heap.get?_push_size _ rfl
    have ty : Shared.TypeIs { s with heap := s.heap.push (oSet w) } (.ref s.heap.objs.size) "set" := ⟨_, ha, rfl⟩
    have i1 := PySem.F.called_set.init.lookup
    have i2 := PySem.F.called_set.init.bind (.ref s.heap.objs.size)
    repeat (any_goals (first | assumption | wp_step))
    refine codeAny_mono (iset_init (P := P) (w := w) (E := E) (s := { s with heap := s.heap.push (oSet w) }) (ns := ns) (by simp [hh]) (hl.push _) ha (Heap.size_push ..) hi room) fun r2 s2 hr2 => ?_
    rcases r2 with e | fl2
    · exact hr2
    cases fl2 with
    | ret v =>
      obtain ⟨rfl, g, tk, c, rfl, S2, hc, kp⟩ := hr2
      repeat (any_goals (first | assumption | wp_step))
      exact hQ g tk c S2 hc fun b o e => kp b o (Heap.lt_size e) (Heap.get?_push_of_some _ e)
    | _ => exact hr2.elim
  | _ => exact hr.elim
theorem isort_of {S : Int → Bool} {n : Nat} {a : Addr} {Q : Value → Shared → Prop} (R : SetR w s.heap a S n) (hh : A.handled = none) (few : n ≤ sizeLine)
    (hQ : ∀ s' p (out : Array Value) (c : Nat) (ns : List Int), (∀ b o, s.heap.get? b = some o → s'.heap.get? b = some o) → s'.gens = s.gens → s'.os = s.os → s.heap.objs.size ≤ p →
      s'.heap.get? p = some (seqObj "list" out c) → IntsAre out.toList ns → ns.Pairwise (· ≤ ·) → ns.Nodup → (∀ k, k ∈ ns ↔ S k = true) → Q (.ref p) s') :
    wpAny (model P w) A (call (.builtin "sorted") [.ref a]) Q E s := by
  obtain ⟨o, es, ep, t, ho, hex, hd, g, nd, hm, hb, hf, hn, hr, hl⟩ := R
  refine Calls.call_function_entry kind_sorted plain_sorted entry_sorted (args_sorted1 _) ?_
  unfold Builtin.«sorted»
  refine wpAny_bind (m := checkCount "sorted" 1 1 _) (wpAny_pure (wpAny_bind (collect_set (A := A.in1) hh ⟨o, ho, hex.1, hd⟩ hf hb hr hl fun s1 vs k1 hz g1 o1 pm => ?_)))
  have vl : vs.length = n := by rw [pm.length_eq, List.length_map, Array.length_toList]; exact hn
  have hI : IntsAre vs (vs.map Builtin.Re.reRawOf) := ints_of vs fun v hv => by
    obtain ⟨e, he, q⟩ := List.mem_map.mp (pm.mem_iff.mp hv)
    obtain ⟨k, tk, h1, _⟩ := g e he
    exact ⟨k, tk, by rw [← q]; exact h1⟩
  have pk : (vs.map Builtin.Re.reRawOf).Perm (es.toList.map keyOf) := by
    have q := pm.map Builtin.Re.reRawOf
    rwa [List.map_map] at q
  refine wpAny_bind (wpAny_newList ?_ (by rw [vl]; exact few))
  have hoL : (s1.heap.push (seqObj "list" vs.toArray 0)).get? s1.heap.objs.size = some (seqObj "list" vs.toArray 0) := Heap.get?_push_size _ rfl
  refine wpAny_bind (wpAny_holding (wpAny_call_entry slot_list_sort ⟨_, hoL, rfl⟩ entry_list_sort (SrtO.list_sort_ord SrtO.swo_int hoL (by rw [vl]; exact few) (fun h2 => SrtO.ints_sortable hI h2) fun out h1 h2 => ⟨_, rfl, ?_⟩) (args_list_sort _)))
  obtain ⟨q1, q2, q3⟩ := SrtO.ints_out hI h1 h2
  obtain ⟨c, hc⟩ := sortedHeap_at (vs := vs) (out := out.toArray) hoL
  have pn := q2.trans pk
  refine wpAny_pure ⟨_, rfl, hQ _ s1.heap.objs.size out.toArray c (out.map SrtO.iv) (fun b u e => ?_) g1 o1 hz hc q1 q3 (pn.nodup_iff.mpr nd) fun k => by rw [pn.mem_iff, ← hm k]⟩
  have q := k1 b u e
  have lt := Heap.lt_size q
  show (sortedHeap (s1.heap.push (seqObj "list" vs.toArray 0)) s1.heap.objs.size vs out.toArray).get? b = some u
  rw [sortedHeap_old (Nat.ne_of_lt lt) (by rw [size_push']; exact Nat.lt_succ_of_lt lt)]
  exact Heap.get?_push_of_some _ q
end
theorem b_set : bootBuiltins "set" = some (.type "set") := by decide +kernel
theorem b_sorted : bootBuiltins "sorted" = some (.builtin "sorted") := by decide +kernel
def tSortSet (K : PySem.W.Frag) (te : TE) : TE := fun σ H Q => te σ H fun v H1 => ∃ (a : Addr) (ns : List Int), v = .ref a ∧ SqL K H1 a (ns.map V.int) ∧ ns.length ≤ 1000 ∧
  ∀ (ms : List Int) (p : Addr), ms.Pairwise (· ≤ ·) → ms.Nodup → (∀ k, k ∈ ms ↔ k ∈ ns) → H1 p = none → Q (.ref p) (upd H1 p (.lst (ms.map V.int)))
theorem pe_sortSet {X : Cx} {a : Expr} {te : TE} {p p2 q pos : Pos} (hc : X.calm = true) (hg : Gl X "sorted") (hm : X.mg "sorted" = none) (hg2 : Gl X "set") (hm2 : X.mg "set" = none) (ha : PE X a te)
    (na : starEach [a] X.env = (false, eval a X.env) :: starEach [] X.env := by rfl) : PE X (.Call (.Name "sorted" p) [.Call (.Name "set" p2) [a] [] q] [] pos) (tSortSet X.K te) := by
  constructor
  intro pins s σ H Q I h
  refine Call_ (ld_blt I hg hm b_sorted (PyProof.Rows.callWith_builtin1 (PyProof.Rows.args_cons (Call_ (ld_blt I hg2 hm2 b_set ?_)) rfl) rfl rfl))
  refine PyProof.Rows.callWith_type1 (PyProof.Rows.args_cons (thn (ha.run pins s σ H _ I h) fun v s1 hh => PyProof.Rows.args_nil ?_) na) na rfl
  obtain ⟨x, H1, I1, r1, l, ns, rfl, hq, few, q1⟩ := hh
  cases (show v = Value.ref l from r1)
  obtain ⟨its, r, pl, _⟩ := I1.list hq
  have hd := I1.ok.hd hc
  refine iset_of hd pl.isList (ns := ns) (by rw [List.toList_toArray]; exact r.ints) (by unfold scanBound; omega) fun g tk c S hcn kp => PyProof.Rows.args_nil ?_
  refine isort_of (s := { s1 with heap := g, toks := tk }) S hd (Nat.le_trans hcn (small1000' few)) fun s2 p' out c2 ms k2 g2 o2 hp hg2 hi hs hnd hmem => ?_
  have kall : ∀ b u, s1.heap.get? b = some u → s2.heap.get? b = some u := fun b u e => k2 b u (kp b u e)
  obtain ⟨o0, es0, ep0, t0, ho0, _⟩ := S
  have hle : s1.heap.objs.size ≤ p' := by
    have h1 := Heap.lt_size ho0
    exact Nat.le_trans (Nat.le_of_lt h1) hp
  have hn : H1 p' = none := I1.hok.fresh hle
  have hlen : (ms.map V.int).length ≤ sizeLine := by
    rw [List.length_map]
    have sub : ms.length ≤ ns.length := by
      have q := hnd
      exact nodup_le q fun k hk => by have := (hmem k).mp hk; simpa using this
    exact Nat.le_trans sub (small1000' few)
  have J : Inv X pins σ (upd H1 p' (.lst (ms.map V.int))) s2 := by
    have e : s2 = { s1 with heap := s2.heap, gens := s2.gens, drawn := s2.drawn, toks := s2.toks } := by
      cases s2
      cases o2
      rfl
    rw [e]
    exact I1.call (ch := []) (Un.laid kall hle hn) (I1.hok.laid kall hle ⟨hlen, out.toList, c2, vals_of_ints hi, hg2⟩) (by rw [g2]; exact I1.bare) (fun _ z => nomatch z)
  exact ⟨.ref p', _, J, rfl, q1 ms p' hs hnd (fun k => by rw [hmem k, decide_eq_true_eq]) hn⟩
end Hf
set_option Elab.async false
set_option maxRecDepth 100000
set_option maxHeartbeats 4000000
namespace Hf
open PySem L2
def top (i : Nat) : Stmt := PySem.Challenge.pw_howfar_k07_whole_few.main.body.getD i (.Pass ⟨0, 0, 0, 0⟩)
abbrev sIsNumber : Stmt := top 5
theorem scIsNumber : FnScope ["value", "least", "most"] ["value", "least", "most"] (defScope sIsNumber) := ⟨rfl, rfl, rfl, by decide +kernel, rfl, by decide +kernel, by decide +kernel⟩
abbrev sShare : Stmt := top 8
theorem scShare : FnScope ["over", "under", "common"] ["over", "under"] (defScope sShare) := ⟨rfl, rfl, rfl, by decide +kernel, rfl, by decide +kernel, by decide +kernel⟩
abbrev sIsShare : Stmt := top 9
theorem scIsShare : FnScope ["value", "over", "under"] ["value"] (defScope sIsShare) := ⟨rfl, rfl, rfl, by decide +kernel, rfl, by decide +kernel, by decide +kernel⟩
abbrev sIsLess : Stmt := top 10
theorem scIsLess : FnScope ["one", "other"] ["one", "other"] (defScope sIsLess) := ⟨rfl, rfl, rfl, by decide +kernel, rfl, by decide +kernel, by decide +kernel⟩
abbrev sPlus : Stmt := top 11
theorem scPlus : FnScope ["one", "other"] ["one", "other"] (defScope sPlus) := ⟨rfl, rfl, rfl, by decide +kernel, rfl, by decide +kernel, by decide +kernel⟩
abbrev sFew : Stmt := top 13
theorem scFew : FnScope ["shares", "off", "chosen", "place"] ["shares", "off"] (defScope sFew) := ⟨rfl, rfl, rfl, by decide +kernel, rfl, by decide +kernel, by decide +kernel⟩
abbrev sIsWithinWhole : Stmt := top 14
theorem scIsWithinWhole : FnScope ["value"] ["value"] (defScope sIsWithinWhole) := ⟨rfl, rfl, rfl, by decide +kernel, rfl, by decide +kernel, by decide +kernel⟩
abbrev sAreRising : Stmt := top 15
theorem scAreRising : FnScope ["value", "each", "place"] ["value"] (defScope sAreRising) := ⟨rfl, rfl, rfl, by decide +kernel, rfl, by decide +kernel, by decide +kernel⟩
abbrev sLawCellAt : Stmt := top 17
theorem scLawCellAt : FnScope ["_law_script", "_law_k"] ["_law_script", "_law_k"] (defScope sLawCellAt) := ⟨rfl, rfl, rfl, by decide +kernel, rfl, by decide +kernel, by decide +kernel⟩
abbrev sLawNumbers : Stmt := top 18
theorem scLawNumbers : FnScope ["_law_cell", "_law_bounds", "_law_rest", "_law_found", "_law_bound"] ["_law_cell", "_law_bounds"] (defScope sLawNumbers) := ⟨rfl, rfl, rfl, by decide +kernel, rfl, by decide +kernel, by decide +kernel⟩
abbrev sLawShare : Stmt := top 19
theorem scLawShare : FnScope ["_law_top", "_law_bottom", "_law_part", "_law_k"] ["_law_top", "_law_bottom"] (defScope sLawShare) := ⟨rfl, rfl, rfl, by decide +kernel, rfl, by decide +kernel, by decide +kernel⟩
abbrev sLawShares : Stmt := top 20
theorem scLawShares : FnScope ["_law_script", "_law_bottom", "_law_found", "_law_top", "_law_k"] ["_law_script"] (defScope sLawShares) := ⟨rfl, rfl, rfl, by decide +kernel, rfl, by decide +kernel, by decide +kernel⟩
abbrev sLawIsOff : Stmt := top 21
theorem scLawIsOff : FnScope ["_law_one", "_law_other", "_law_off", "_law_more"] ["_law_one", "_law_other", "_law_off"] (defScope sLawIsOff) := ⟨rfl, rfl, rfl, by decide +kernel, rfl, by decide +kernel, by decide +kernel⟩
abbrev sLawShows : Stmt := top 22
theorem scLawShows : FnScope ["_law_shares_here", "_law_chosen", "_law_off", "_law_last", "_law_at"] ["_law_shares_here", "_law_chosen", "_law_off"] (defScope sLawShows) := ⟨rfl, rfl, rfl, by decide +kernel, rfl, by decide +kernel, by decide +kernel⟩
abbrev sLawFewest : Stmt := top 23
theorem scLawFewest : FnScope ["_law_shares_here", "_law_off", "_law_best", "_law_lot", "_law_chosen", "_law_at"] ["_law_shares_here", "_law_off"] (defScope sLawFewest) := ⟨rfl, rfl, rfl, by decide +kernel, rfl, by decide +kernel, by decide +kernel⟩
abbrev sLawRight : Stmt := top 24
theorem scLawRight : FnScope ["_law_shares_here", "_law_off", "_law_handed", "_law_got", "_law_k", "_law_at"] ["_law_shares_here", "_law_off"] (defScope sLawRight) := ⟨rfl, rfl, rfl, by decide +kernel, rfl, by decide +kernel, by decide +kernel⟩
abbrev sLaw : Stmt := top 25
theorem scLaw : FnScope ["_law_script", "_law_shares_here", "_law_k", "_law_digits", "_law_off", "_law_long"] ["_law_script"] (defScope sLaw) := ⟨rfl, rfl, rfl, by decide +kernel, rfl, by decide +kernel, by decide +kernel⟩
end Hf
set_option maxRecDepth 100000
namespace Hf
/-! ## the fewest that show all: by places 0 .. n - 1 with values t, o: the one is off from the other -/
section
variable (t : Nat → Int) (o : Int → Int → Bool)
def gr : Nat → List Nat
  | 0 => [0]
  | i + 1 => if o (t (i + 1)) (t ((gr i).getLast?.getD 0)) = true then gr i ++ [i + 1] else gr i
/-- the last one of cs ahead of k -/
def la (cs : List Nat) : Nat → Option Nat
  | 0 => none
  | k + 1 => if k ∈ cs then some k else la cs k
def seen (cs : List Nat) (k : Nat) : Bool := match la cs (k + 1) with | none => false | some l => !o (t k) (t l)
def shB (cs : List Nat) (n : Nat) : Bool := (List.range n).all (seen t o cs)
end
theorem seen_none {t : Nat → Int} {o : Int → Int → Bool} {cs : List Nat} {k : Nat} (h : la cs (k + 1) = none) : seen t o cs k = false := by unfold seen; rw [h]
theorem seen_some {t : Nat → Int} {o : Int → Int → Bool} {cs : List Nat} {k l : Nat} (h : la cs (k + 1) = some l) : seen t o cs k = !o (t k) (t l) := by unfold seen; rw [h]
theorem la_lt {cs : List Nat} : ∀ {k l : Nat}, la cs k = some l → l < k ∧ l ∈ cs
  | 0, l, h => by cases h
  | k + 1, l, h => by
    unfold la at h
    by_cases c : k ∈ cs
    · rw [if_pos c] at h
      cases h
      exact ⟨Nat.lt_succ_self _, c⟩
    · rw [if_neg c] at h
      have := la_lt h
      exact ⟨Nat.lt_succ_of_lt this.1, this.2⟩
theorem la_top {cs : List Nat} : ∀ {k j : Nat}, j ∈ cs → j < k → ∃ l, la cs k = some l ∧ j ≤ l
  | 0, j, _, h => by omega
  | k + 1, j, hj, h => by
    unfold la
    by_cases c : k ∈ cs
    · rw [if_pos c]
      exact ⟨k, rfl, by omega⟩
    · rw [if_neg c]
      have : j ≠ k := fun e => c (e ▸ hj)
      exact la_top hj (by omega)
/-- more behind changes nothing ahead -/
theorem la_app {cs : List Nat} {x : Nat} : ∀ {k : Nat}, k ≤ x → la (cs ++ [x]) k = la cs k
  | 0, _ => rfl
  | k + 1, h => by
    unfold la
    have e : (k ∈ cs ++ [x]) ↔ k ∈ cs := by
      rw [List.mem_append]
      constructor
      · rintro (h1 | h1)
        · exact h1
        · rw [List.mem_singleton] at h1; omega
      · exact .inl
    rw [la_app (by omega)]
    by_cases c : k ∈ cs
    · rw [if_pos c, if_pos (e.mpr c)]
    · rw [if_neg c, if_neg (fun z => c (e.mp z))]
section
variable {t : Nat → Int} {o : Int → Int → Bool}
structure GrOk (t : Nat → Int) (o : Int → Int → Bool) (i : Nat) (cs : List Nat) : Prop where
  hd : cs.head? = some 0
  le : ∀ c ∈ cs, c ≤ i
  up : cs.Pairwise (· < ·)
  last : ∃ l, cs.getLast? = some l ∧ la cs (i + 1) = some l
  sh : ∀ k, k ≤ i → ∃ l, la cs (k + 1) = some l ∧ o (t k) (t l) = false
  near : ∀ (j a b : Nat), cs[j]? = some a → cs[j + 1]? = some b → o (t b) (t a) = true ∧ o (t (b - 1)) (t a) = false ∧ a < b
theorem gr_ok (h0 : ∀ x, o x x = false) : ∀ i, GrOk t o i (gr t o i)
  | 0 => ⟨rfl, fun c hc => by simp [gr] at hc; omega, by simp [gr], ⟨0, rfl, rfl⟩, fun k hk => by
      obtain rfl : k = 0 := by omega
      exact ⟨0, rfl, h0 _⟩, fun j a b h1 h2 => by simp [gr] at h2⟩
  | i + 1 => by
    have ih := gr_ok h0 i
    obtain ⟨l, hl, hla⟩ := ih.last
    have hlm : l ∈ gr t o i := (la_lt hla).2
    have hli := ih.le l hlm
    unfold gr
    rw [hl]
    show GrOk t o (i + 1) (if o (t (i + 1)) (t l) = true then gr t o i ++ [i + 1] else gr t o i)
    by_cases c : o (t (i + 1)) (t l) = true
    · rw [if_pos c]
      have top : la (gr t o i ++ [i + 1]) (i + 2) = some (i + 1) := by
        show (if i + 1 ∈ gr t o i ++ [i + 1] then some (i + 1) else _) = _
        rw [if_pos (by simp)]
      refine ⟨?_, fun c hc => ?_, ?_, ⟨i + 1, by simp, top⟩, fun k hk => ?_, fun j a b h1 h2 => ?_⟩
      · rw [List.head?_append, ih.hd]; rfl
      · rcases List.mem_append.mp hc with h | h
        · have := ih.le c h; omega
        · rw [List.mem_singleton] at h; omega
      · rw [List.pairwise_append]
        refine ⟨ih.up, by simp, fun a ha b hb => ?_⟩
        rw [List.mem_singleton] at hb
        have := ih.le a ha
        omega
      · by_cases e : k = i + 1
        · subst e
          exact ⟨i + 1, top, h0 _⟩
        · rw [la_app (by omega)]
          exact ih.sh k (by omega)
      · by_cases hj : j + 1 < (gr t o i).length
        · rw [List.getElem?_append_left (by omega)] at h1
          rw [List.getElem?_append_left hj] at h2
          exact ih.near j a b h1 h2
        · have hj2 : j + 1 = (gr t o i).length := by
            have := (List.getElem?_eq_some_iff.mp h2).1
            rw [List.length_append, List.length_singleton] at this
            omega
          rw [List.getElem?_append_left (by omega)] at h1
          rw [hj2, List.getElem?_append_right (Nat.le_refl _), Nat.sub_self] at h2
          cases h2
          have ea : a = l := by
            rw [List.getLast?_eq_getElem?, ← hj2, Nat.add_sub_cancel, h1] at hl
            exact Option.some.inj hl
          subst ea
          obtain ⟨l2, e2, e3⟩ := ih.sh i (Nat.le_refl _)
          rw [hla] at e2
          cases e2
          exact ⟨c, e3, by omega⟩
    · rw [if_neg c]
      have ni : ¬ i + 1 ∈ gr t o i := fun z => by have := ih.le _ z; omega
      have top : la (gr t o i) (i + 2) = some l := by
        show (if i + 1 ∈ gr t o i then some (i + 1) else _) = _
        rw [if_neg ni]
        exact hla
      refine ⟨ih.hd, fun c hc => Nat.le_succ_of_le (ih.le c hc), ih.up, ⟨l, hl, top⟩, fun k hk => ?_, ih.near⟩
      by_cases e : k = i + 1
      · subst e
        exact ⟨l, top, by simpa using c⟩
      · exact ih.sh k (by omega)
theorem gr_sh (h0 : ∀ x, o x x = false) (i : Nat) : shB t o (gr t o i) (i + 1) = true := by
  unfold shB
  rw [List.all_eq_true]
  intro k hk
  obtain ⟨l, e1, e2⟩ := (gr_ok (t := t) h0 i).sh k (by have := List.mem_range.mp hk; omega)
  rw [seen_some e1, e2]
  rfl
/-- how many of cs are no more than x -/
def upTo (cs : List Nat) (x : Nat) : Nat := (cs.filter fun c => decide (c ≤ x)).length
theorem upTo_mono {cs : List Nat} {x y z : Nat} (h : x < y) (hy : y ≤ z) (hm : y ∈ cs) : upTo cs x + 1 ≤ upTo cs z := by
  unfold upTo
  induction cs with
  | nil => cases hm
  | cons c r ih =>
    have sub : ∀ r : List Nat, (r.filter fun c => decide (c ≤ x)).length ≤ (r.filter fun c => decide (c ≤ z)).length := by
      intro r
      induction r with
      | nil => exact Nat.le_refl _
      | cons d r ih =>
        rw [List.filter_cons, List.filter_cons]
        by_cases a : d ≤ x
        · rw [if_pos (by simpa using a), if_pos (by simp; omega), List.length_cons, List.length_cons]; omega
        · rw [if_neg (by simpa using a)]
          by_cases b : d ≤ z
          · rw [if_pos (by simpa using b), List.length_cons]; omega
          · rw [if_neg (by simpa using b)]; exact ih
    rw [List.filter_cons, List.filter_cons]
    by_cases e : y = c
    · subst e
      rw [if_neg (by simp; omega), if_pos (by simpa using hy), List.length_cons]
      have := sub r
      omega
    · have hm' : y ∈ r := by
        rcases List.mem_cons.mp hm with h | h
        · exact absurd h e
        · exact h
      have := ih hm'
      by_cases a : c ≤ x
      · rw [if_pos (by simpa using a), if_pos (by simp; omega), List.length_cons, List.length_cons]; omega
      · rw [if_neg (by simpa using a)]
        by_cases b : c ≤ z
        · rw [if_pos (by simpa using b), List.length_cons]; omega
        · rw [if_neg (by simpa using b)]; exact this
/-- no choice that shows all is smaller -/
theorem gr_least (h0 : ∀ x, o x x = false) (hmon : ∀ x a b, a ≤ b → o x b = true → o x a = true) (hup : ∀ i j, i ≤ j → t i ≤ t j) {cs : List Nat} {i : Nat} (hs : shB t o cs (i + 1) = true) : (gr t o i).length ≤ cs.length := by
  have G := gr_ok (t := t) h0 i
  have show_ : ∀ k, k ≤ i → ∃ l, la cs (k + 1) = some l ∧ o (t k) (t l) = false := by
    intro k hk
    have := (List.all_eq_true.mp hs) k (List.mem_range.mpr (by omega))
    cases e : la cs (k + 1) with
    | none => rw [seen_none e] at this; cases this
    | some l =>
      rw [seen_some e] at this
      exact ⟨l, rfl, by simpa using this⟩
  have key : ∀ (j a : Nat), (gr t o i)[j]? = some a → j + 1 ≤ upTo cs a := by
    intro j
    induction j with
    | zero =>
      intro a h
      have : a = 0 := by
        have := G.hd
        rw [List.head?_eq_getElem?, h] at this
        exact Option.some.inj this
      subst this
      obtain ⟨l, e, _⟩ := show_ 0 (Nat.zero_le _)
      obtain ⟨h1, h2⟩ := la_lt e
      have : l = 0 := by omega
      subst this
      unfold upTo
      have : 0 < (cs.filter fun c => decide (c ≤ 0)).length := List.length_pos_of_mem (List.mem_filter.mpr ⟨h2, by simp⟩)
      omega
    | succ j ih =>
      intro b hb
      have hj : j < (gr t o i).length := by have := (List.getElem?_eq_some_iff.mp hb).1; omega
      have ha : (gr t o i)[j]? = some (gr t o i)[j] := List.getElem?_eq_getElem hj
      generalize (gr t o i)[j] = a at ha
      obtain ⟨q1, q2, q3⟩ := G.near j a b ha hb
      have hbi := G.le b (List.mem_of_getElem? hb)
      obtain ⟨l, e, f⟩ := show_ b hbi
      obtain ⟨h1, h2⟩ := la_lt e
      have hal : a < l := by
        refine Nat.lt_of_not_le fun z => ?_
        have := hmon (t b) (t l) (t a) (hup l a z) q1
        rw [f] at this
        cases this
      have := upTo_mono (cs := cs) (x := a) (y := l) (z := b) hal (by omega) h2
      have := ih a ha
      omega
  have hpos : (gr t o i).length ≠ 0 := by
    have := G.hd
    intro z
    rw [List.length_eq_zero_iff.mp z] at this
    cases this
  obtain ⟨m, hm⟩ : ∃ m, (gr t o i).length = m + 1 := ⟨(gr t o i).length - 1, by omega⟩
  have := key m _ (List.getElem?_eq_getElem (by omega))
  have h2 : upTo cs ((gr t o i)[m]'(by omega)) ≤ cs.length := List.length_filter_le _ _
  omega
end
end Hf
set_option maxRecDepth 100000
namespace Hf
/-! ## lots -/
def selB (lot i : Nat) : Bool := decide (lot / 2 ^ i % 2 = 1)
def lotL (lot n : Nat) : List Nat := (List.range n).filter (selB lot)
theorem lot_ex (f : Nat → Bool) : ∀ n : Nat, ∃ lot, lot < 2 ^ n ∧ ∀ i, i < n → selB lot i = f i
  | 0 => ⟨0, by decide, fun i h => by omega⟩
  | n + 1 => by
    obtain ⟨lot, h1, h2⟩ := lot_ex f n
    have tb : ∀ x i, selB x i = x.testBit i := fun x i => by
      unfold selB
      rw [Nat.testBit_eq_decide_div_mod_eq]
    cases e : f n with
    | false =>
      refine ⟨lot, by rw [Nat.pow_succ]; omega, fun i hi => ?_⟩
      by_cases z : i = n
      · subst z
        rw [tb, Nat.testBit_lt_two_pow h1, e]
      · exact h2 i (by omega)
    | true =>
      refine ⟨2 ^ n + lot, by rw [Nat.pow_succ]; omega, fun i hi => ?_⟩
      by_cases z : i = n
      · subst z
        rw [tb, Nat.testBit_two_pow_add_eq, Nat.testBit_lt_two_pow h1, e]
        rfl
      · rw [tb, Nat.testBit_two_pow_add_gt (by omega), ← tb]
        exact h2 i (by omega)
theorem la_congr {cs ds : List Nat} : ∀ {k : Nat}, (∀ j, j < k → (j ∈ cs ↔ j ∈ ds)) → la cs k = la ds k
  | 0, _ => rfl
  | k + 1, h => by
    unfold la
    rw [la_congr (k := k) fun j hj => h j (by omega)]
    by_cases c : k ∈ cs
    · rw [if_pos c, if_pos ((h k (by omega)).mp c)]
    · rw [if_neg c, if_neg (fun z => c ((h k (by omega)).mpr z))]
theorem sh_congr {t : Nat → Int} {o : Int → Int → Bool} {cs ds : List Nat} {n : Nat} (h : ∀ j, j < n → (j ∈ cs ↔ j ∈ ds)) : shB t o cs n = shB t o ds n := by
  unfold shB
  have e : ∀ l : List Nat, (∀ k ∈ l, k < n) → l.all (seen t o cs) = l.all (seen t o ds) := by
    intro l
    induction l with
    | nil => intro _; rfl
    | cons k r ih =>
      intro hl
      rw [List.all_cons, List.all_cons, ih fun k hk => hl k (List.mem_cons_of_mem _ hk)]
      have e : seen t o cs k = seen t o ds k := by
        unfold seen
        rw [la_congr (k := k + 1) fun j hj => h j (by have := hl k List.mem_cons_self; omega)]
      rw [e]
  exact e _ fun k hk => List.mem_range.mp hk
/-- the chosen ones among all places -/
theorem gr_filter (t : Nat → Int) (o : Int → Int → Bool) : ∀ i : Nat, (List.range (i + 1)).filter (fun k => decide (k ∈ gr t o i)) = gr t o i
  | 0 => by simp [gr, List.range_succ]
  | i + 1 => by
    have ih := gr_filter t o i
    have lt : ∀ k ∈ gr t o i, k < i + 1 := fun k hk => by
      rw [← ih] at hk
      exact List.mem_range.mp (List.mem_filter.mp hk).1
    rw [List.range_succ, List.filter_append]
    have e : ∀ g, g = gr t o i ∨ g = gr t o i ++ [i + 1] → (List.range (i + 1)).filter (fun k => decide (k ∈ g)) = gr t o i := by
      intro g hg
      conv => rhs; rw [← ih]
      refine List.filter_congr fun k hk => ?_
      have := List.mem_range.mp hk
      rcases hg with rfl | rfl
      · rfl
      · simp only [List.mem_append, List.mem_singleton]
        have : ¬ k = i + 1 := by omega
        simp [this]
    unfold gr
    split
    · rw [e _ (.inr rfl)]
      simp
    · rw [e _ (.inl rfl)]
      have : ¬ i + 1 ∈ gr t o i := fun z => by have := lt _ z; omega
      simp [this]
theorem gr_lot (t : Nat → Int) (o : Int → Int → Bool) (i : Nat) : ∃ lot, lot < 2 ^ (i + 1) ∧ lotL lot (i + 1) = gr t o i := by
  obtain ⟨lot, h1, h2⟩ := lot_ex (fun k => decide (k ∈ gr t o i)) (i + 1)
  refine ⟨lot, h1, ?_⟩
  unfold lotL
  rw [← gr_filter t o i]
  refine List.filter_congr fun k hk => ?_
  rw [h2 k (List.mem_range.mp hk)]
end Hf
set_option Elab.async false
set_option maxRecDepth 100000
set_option maxHeartbeats 4000000
namespace Hf
open PySem L2 PySem.Spec PyProof.Rows
abbrev NumF (K : PySem.W.Frag) (f : Addr) (fd : FuncData) : Prop := FunD K "is_number" "is_number" (defArgs sIsNumber) (defBody sIsNumber) (defScope sIsNumber) [.non] [] f fd
theorem num_b2 {K : PySem.W.Frag} {f : Addr} {fd : FuncData} (F : NumF K f fd) : Binds K fd ["value", "least", "most"] [.none] := by
  obtain ⟨ds, r, b⟩ := FunD.binds1 (ps := ["value", "least", "most"]) F 2 0 (by simp) rfl fun T kV doc pm an cdv ct us its hl hi => match us, hl, its, hi with
    | [_, _], _, [_], _ => ⟨_, rfl, rfl⟩
  cases (show Vals [.non] ds from r) with
  | cons r1 r2 =>
    cases r2
    cases r1
    exact b
def optV : Option Int → V
  | none => .non
  | some i => .int i
def numO (lo : Int) (hi : Option Int) (i : Int) : Bool := decide (lo ≤ i) && match hi with | none => true | some h => decide (i ≤ h)
def spNumber : Sp := fun vs H Q _ => ∃ (i lo : Int) (hi : Option Int), vs = [.int i, .int lo, optV hi] ∧ Q (.bl (numO lo hi i)) H
/-- a share from 0 on -/
structure OfOk (x y : Int) : Prop where
  x0 : 0 ≤ x
  xz : x ≤ 1000
  y1 : 1 ≤ y
  yz : y ≤ 1000
  g : Nat.gcd x.natAbs y.natAbs = 1
def gc (a b : Int) : Int := ((Nat.gcd a.natAbs b.natAbs : Nat) : Int)
theorem gc_pos {a b : Int} (h : 0 < b) : 0 < gc a b := by
  have : 0 < Nat.gcd a.natAbs b.natAbs := Nat.gcd_pos_of_pos_right _ (by omega)
  unfold gc
  omega
theorem gc_le {a b : Int} (h : 0 < b) : gc a b ≤ b := by
  have : Nat.gcd a.natAbs b.natAbs ≤ b.natAbs := Nat.le_of_dvd (by omega) (Nat.gcd_dvd_right _ _)
  unfold gc
  omega
theorem gc_dl (a b : Int) : gc a b ∣ a := Int.ofNat_dvd_left.mpr (Nat.gcd_dvd_left _ _)
theorem gc_dr (a b : Int) : gc a b ∣ b := Int.ofNat_dvd_left.mpr (Nat.gcd_dvd_right _ _)
def spIsShare : Sp := fun vs H Q _ => ∃ (a : Addr) (x y : Int), vs = [.ref a] ∧ H a = some (.tup [.int x, .int y]) ∧ OfOk x y ∧ Q (.bl true) H
def spWithin : Sp := fun vs H Q _ => ∃ (a : Addr) (x y : Int), vs = [.ref a] ∧ H a = some (.tup [.int x, .int y]) ∧ OfOk x y ∧ x ≤ y ∧ Q (.bl true) H
def spIsLess (K : PySem.W.Frag) : Sp := fun vs H Q _ => ∃ (a b : Addr) (x y z w : Int), vs = [.ref a, .ref b] ∧ SqT K H a [.int x, .int y] ∧ SqT K H b [.int z, .int w] ∧ (-(2 ^ 64) < x ∧ x < 2 ^ 64) ∧ (-(2 ^ 64) < z ∧ z < 2 ^ 64) ∧ Q (.bl (decide (x * w < z * y))) H
def spShare : Sp := fun vs H Q _ => ∃ x y : Int, vs = [.int x, .int y] ∧ 0 < y ∧ y < 1073741824 ∧ ∀ p, H p = none → Q (.ref p) (upd H p (.tup [.int (x / gc x y), .int (y / gc x y)]))
def spPlus : Sp := fun vs H Q _ => ∃ (a b : Addr) (x y z w : Int), vs = [.ref a, .ref b] ∧ H a = some (.tup [.int x, .int y]) ∧ H b = some (.tup [.int z, .int w]) ∧ OfOk x y ∧ OfOk z w ∧
  ∀ p X Y, H p = none → 0 < Y → X * (y * w) = (x * w + z * y) * Y → 0 ≤ X → X ≤ 2000000 → Y ≤ 1000000 → Q (.ref p) (upd H p (.tup [.int X, .int Y]))
/-- the shares at qs: of B, the places' values t rising -/
structure ShL (H : Hp) (B : Int) (t : Nat → Int) (qs : List (Addr × Int × Int)) : Prop where
  at_ : ∀ (i : Nat) (q : Addr × Int × Int), qs[i]? = some q → H q.1 = some (.tup [.int q.2.1, .int q.2.2]) ∧ OfOk q.2.1 q.2.2 ∧ q.2.1 ≤ q.2.2 ∧ q.2.1 * B = t i * q.2.2
  b1 : 1 ≤ B
  up : ∀ i j, i ≤ j → t i ≤ t j
theorem ShL.sm {H H' : Hp} {B : Int} {t : Nat → Int} {qs : List (Addr × Int × Int)} (h : ShL H B t qs) (s : Sm H H') : ShL H' B t qs :=
  ⟨fun i q e => let ⟨a, b⟩ := h.at_ i q e; ⟨s.tup a, b⟩, h.b1, h.up⟩
def refsOf (qs : List (Addr × Int × Int)) : List V := qs.map fun q => V.ref q.1
theorem refs_get {qs : List (Addr × Int × Int)} {i : Nat} {v : V} (h : (refsOf qs)[i]? = some v) : ∃ q, qs[i]? = some q ∧ v = .ref q.1 := by
  unfold refsOf at h
  rw [List.getElem?_map] at h
  cases e : qs[i]? with
  | none => rw [e] at h; cases h
  | some q => rw [e] at h; exact ⟨q, rfl, (Option.some.inj h).symm⟩
def spRising (K : PySem.W.Frag) (T : Addr) : Sp := fun vs H Q _ => ∃ (a : Addr) (B : Int) (t : Nat → Int) (qs : List (Addr × Int × Int)), vs = [.ref a] ∧ H a = some (.lst (refsOf qs)) ∧ ShL H B t qs ∧ qs ≠ [] ∧ qs.length ≤ 1000 ∧ Tab H T ∧ ∀ H', Sm H H' → Q (.bl true) H'
def offB (B a b : Int) (x y : Int) : Bool := decide ((x - y) * b > a * B)
def spFew (K : PySem.W.Frag) (T : Addr) : Sp := fun vs H Q _ => ∃ (l c : Addr) (B : Int) (t : Nat → Int) (qs : List (Addr × Int × Int)) (a b : Int), vs = [.ref l, .ref c] ∧ H l = some (.lst (refsOf qs)) ∧ ShL H B t qs ∧ qs ≠ [] ∧ qs.length ≤ 1000 ∧ H c = some (.tup [.int a, .int b]) ∧ OfOk a b ∧ Tab H T ∧
  ∀ H' p, Sm H H' → H p = none → H' p = some (.lst ((gr t (offB B a b) (qs.length - 1)).map fun n => V.int (n : Nat))) → Q (.ref p) H'
theorem at0 {v w : V} : atI [v, w] 0 = some v := atI_nat (j := 0) rfl
theorem at1 {v w : V} : atI [v, w] 1 = some w := atI_nat (j := 1) rfl
theorem less_t {B x y t x' y' t' : Int} (b1 : 1 ≤ B) (y1 : 1 ≤ y) (y2 : 1 ≤ y') (e : x * B = t * y) (e' : x' * B = t' * y') : x' * y < x * y' ↔ t' < t := by
  have p : 0 < y * y' := Int.mul_pos (by omega) (by omega)
  have e1 : x' * y * B = t' * (y * y') := by grind
  have e2 : x * y' * B = t * (y * y') := by grind
  constructor
  · intro h
    have h2 := Int.mul_lt_mul_of_pos_right h (show 0 < B by omega)
    rw [e1, e2] at h2
    exact Int.lt_of_mul_lt_mul_right h2 (Int.le_of_lt p)
  · intro h
    have h2 := Int.mul_lt_mul_of_pos_right h p
    rw [← e1, ← e2] at h2
    exact Int.lt_of_mul_lt_mul_right h2 (by omega)
/-- more than what is shown by more than may be off -/
theorem off_t {B a b x y t x' y' t' X Y : Int} (b1 : 1 ≤ B) (y1 : 1 ≤ y) (y2 : 1 ≤ y') (bb : 1 ≤ b) (Y0 : 0 < Y) (e : x * B = t * y) (e' : x' * B = t' * y') (h : X * (y * b) = (x * b + a * y) * Y) : X * y' < x' * Y ↔ (t' - t) * b > a * B := by
  have p : 0 < y * b * B := Int.mul_pos (Int.mul_pos (by omega) (by omega)) (by omega)
  have p2 : 0 < y * y' * Y := Int.mul_pos (Int.mul_pos (by omega) (by omega)) Y0
  have e1 : X * y' * (y * b * B) = (t * b + a * B) * (y * y' * Y) := by grind
  have e2 : x' * Y * (y * b * B) = (t' * b) * (y * y' * Y) := by grind
  have e3 : (t' - t) * b = t' * b - t * b := Int.sub_mul ..
  rw [e3]
  constructor
  · intro h
    have h2 := Int.mul_lt_mul_of_pos_right h p
    rw [e1, e2] at h2
    have := Int.lt_of_mul_lt_mul_right h2 (Int.le_of_lt p2)
    omega
  · intro h
    have h2 := Int.mul_lt_mul_of_pos_right (show t * b + a * B < t' * b by omega) p2
    rw [← e1, ← e2] at h2
    exact Int.lt_of_mul_lt_mul_right h2 (Int.le_of_lt p)
/-- the law's own reckoning -/
theorem off_l {B a b x y t x' y' t' : Int} (b1 : 1 ≤ B) (y1 : 1 ≤ y) (y2 : 1 ≤ y') (e : x * B = t * y) (e' : x' * B = t' * y') : (x' * y - x * y') * b > a * y' * y ↔ (t' - t) * b > a * B := by
  have p2 : 0 < y * y' := Int.mul_pos (by omega) (by omega)
  have e1 : (x' * y - x * y') * b * B = (t' - t) * b * (y * y') := by grind
  have e2 : a * y' * y * B = a * B * (y * y') := by grind
  constructor
  · intro h
    have h2 := Int.mul_lt_mul_of_pos_right h (show 0 < B by omega)
    rw [e1, e2] at h2
    exact Int.lt_of_mul_lt_mul_right h2 (Int.le_of_lt p2)
  · intro h
    have h2 := Int.mul_lt_mul_of_pos_right h p2
    rw [← e1, ← e2] at h2
    exact Int.lt_of_mul_lt_mul_right h2 (by omega)
theorem offB_irr {B a b : Int} (b1 : 1 ≤ B) (oc : OfOk a b) (x : Int) : offB B a b x x = false := by
  unfold offB
  rw [Int.sub_self, Int.zero_mul]
  have := Int.mul_nonneg oc.x0 (show 0 ≤ B by omega)
  exact decide_eq_false (by omega)
theorem gr_len (t : Nat → Int) (o : Int → Int → Bool) : ∀ i, (gr t o i).length ≤ i + 1
  | 0 => Nat.le_refl _
  | i + 1 => by
    unfold gr
    have := gr_len t o i
    split
    · rw [List.length_append, List.length_singleton]; omega
    · omega
section
variable {P : Program} {w : World} {K : PySem.W.Frag} {mg : Str → Option Value} {base : Heap}
theorem ok_isNumber {f : Addr} {fd : FuncData} (D : Gd K mg "is_number" sIsNumber [.non] f fd) (b : Bi mg) : FnOk P w K mg base CX0 1 f fd ["value", "least", "most"] spNumber := by
  refine D.F.ok scIsNumber (fun vs H Q E h => ?_) (fun cdv A outer s H vs Q E hr h => ?_)
  · obtain ⟨i, lo, hi, rfl, _⟩ := h
    rfl
  obtain ⟨i, lo, hi, rfl, k⟩ := h
  refine ⟨_, (pss_cons (ps_if (PW.pt (pw_or (pt_not (pt_val (pe_callB call_isi (by rfl) b.isinstance b_isi (pa_cons (pv 0) (pa_cons (pe_bltn (v := .ty "int") (by rfl) b.int b_int rfl) pa_nil))))) (pw_or1 (pt_val (pe_callB call_isi (by rfl) b.isinstance b_isi (pa_cons (pv 0) (pa_cons (pe_bltn (v := .ty "bool") (by rfl) b.bool b_bool rfl) pa_nil))))))) (pss_one (ps_ret pe_bl)) pss_nil) (pss_one (ps_ret (pe_and (pe_cmpR op_le (pv 1) (pv 0) (nomark _)) (pe_one (pe_or (pe_cmpR op_isN (pv 2) pe_non (nomark _)) (pe_one (pe_cmpR op_le (pv 0) (pv 2) (nomark _))))))))), ?_⟩
  refine ⟨_, rfl, _, _, _, _, true, rfl, .ty _, .base (.int _), kit_int_int, true, rfl, iteF ?_⟩
  refine ⟨_, rfl, _, _, _, _, false, rfl, .ty _, .base (.int _), kit_int_bool, false, rfl, iteF ?_⟩
  refine ⟨_, rfl, _, rfl, _, _, rfl, rfl, _, rfl, ?_⟩
  unfold numO at k
  by_cases c : lo ≤ i
  · rw [decide_eq_true c] at k ⊢
    rw [Bool.true_and] at k
    refine iteT ?_
    cases hi with
    | none => exact ⟨_, rfl, rfl, _, rfl, iteT k⟩
    | some h => exact ⟨_, rfl, rfl, _, rfl, iteF ⟨_, rfl, _, rfl, _, _, rfl, rfl, k⟩⟩
  · rw [decide_eq_false c] at k ⊢
    exact iteF k
theorem ok_share {f : Addr} {fd : FuncData} (D : Gf K mg "share" sShare ["over", "under"] f fd) (hg : mg "gcd" = some (.builtin "math.gcd")) : FnOk P w K mg base CX0 1 f fd ["over", "under"] spShare := by
  refine D.F.ok scShare (fun vs H Q E h => ?_) (fun cdv A outer s H vs Q E hr h => ?_)
  · obtain ⟨x, y, rfl, _⟩ := h
    rfl
  obtain ⟨x, y, rfl, h0, hz, k⟩ := h
  have g0 := gc_pos (a := x) h0
  have g1 := gc_le (a := x) h0
  refine ⟨_, (pss_cons (ps_set (i := 2) scShare.nd rfl (.inl rfl) (pe_callBfun cr_gcd (by rfl) hg (pa_cons (pv 0) (pa_cons (pv 1) pa_nil)))) (pss_one (ps_ret (pe_tup (pa_cons (pe_op op_fdiv (pv 0) (pv 2)) (pa_cons (pe_op op_fdiv (pv 1) (pv 2)) pa_nil)))))), ?_⟩
  refine ⟨_, rfl, _, rfl, _, _, rfl, ?_⟩
  exact ⟨_, rfl, _, rfl, _, _, rfl, rfl, ⟨g0, by show gc x y < 1073741824; omega⟩, _, rfl, _, rfl, _, _, rfl, rfl, ⟨g0, by show gc x y < 1073741824; omega⟩, show 2 ≤ sizeLine by decide, k⟩
theorem ok_isShare {f f1 : Addr} {fd fd1 : FuncData} (D : Gf K mg "is_share" sIsShare ["value"] f fd) (DIsNumber : Gd K mg "is_number" sIsNumber [.non] f1 fd1) (b : Bi mg) (hg : mg "gcd" = some (.builtin "math.gcd")) :
    FnOk P w K mg base CX0 2 f fd ["value"] spIsShare := by
  have GIsNumber : FnOk P w K mg base CX0 1 f1 fd1 ["value", "least", "most"] spNumber := ok_isNumber DIsNumber b
  refine D.F.ok scIsShare (fun vs H Q E h => ?_) (fun cdv A outer s H vs Q E hr h => ?_)
  · obtain ⟨a, x, y, rfl, _⟩ := h
    rfl
  obtain ⟨a, x, y, rfl, hp, so, k⟩ := h
  refine ⟨_, (pss_cons (ps_if (PW.pt (pw_or (pt_not (pt_val (pe_callB call_isi (by rfl) b.isinstance b_isi (pa_cons (pv 0) (pa_cons (pe_bltn (v := .ty "tuple") (by rfl) b.tuple b_tuple rfl) pa_nil))))) (pw_or1 (pt_cmpR op_ne (pe_callB call_len_seq (by rfl) b.len PySem.boot_len (pa_cons (pv 0) pa_nil)) pe_int (nomark _))))) (pss_one (ps_ret pe_bl)) pss_nil) (pss_cons (ps_asg (pv 0) (pg_tup rfl (pgs_cons (pg_name (i := 1) scIsShare.nd rfl (.inl rfl)) (pgs_cons (pg_name (i := 2) scIsShare.nd rfl (.inl rfl)) pgs_nil)))) (pss_one (ps_ret (pe_and (pe_call GIsNumber (hr.mono (by decide)) (by rfl) DIsNumber.m DIsNumber.kp (num_b2 DIsNumber.F) (.cons (show RelV .non Value.none from rfl) .nil) pass0 (pa_cons (pv 1) (pa_cons pe_int pa_nil))) (pe_and (pe_call GIsNumber (hr.mono (by decide)) (by rfl) DIsNumber.m DIsNumber.kp (num_b2 DIsNumber.F) (.cons (show RelV .non Value.none from rfl) .nil) pass0 (pa_cons (pv 2) (pa_cons pe_int pa_nil))) (pe_one (pe_cmpR op_eq (pe_callBfun cr_gcd (by rfl) hg (pa_cons (pv 1) (pa_cons (pv 2) pa_nil))) pe_int (nomark _))))))))), ?_⟩
  refine ⟨_, rfl, _, _, _, _, true, rfl, .ty _, .base (.tup hp), kit_tup_tup, true, rfl, iteF ?_⟩
  refine ⟨_, rfl, a, _, rfl, .inr (SqT.of hp), rfl, _, rfl, ?_⟩
  rw [decide_eq_true (p := V.int (([V.int x, V.int y] : List V).length : Nat) = V.int 2) rfl]
  refine iteF ⟨_, rfl, a, _, rfl, SqT.of hp, rfl, _, _, rfl, _, _, rfl, rfl, ?_⟩
  refine ⟨_, rfl, x, 0, none, rfl, ?_⟩
  rw [show numO 0 none x = true by unfold numO; rw [decide_eq_true so.x0]; rfl]
  refine ⟨true, rfl, iteT ⟨_, rfl, y, 1, none, rfl, ?_⟩⟩
  rw [show numO 1 none y = true by unfold numO; rw [decide_eq_true so.y1]; rfl]
  refine ⟨true, rfl, iteT ⟨_, rfl, _, rfl, x, y, rfl, rfl, ?_⟩⟩
  rw [so.g, decide_eq_true (p := V.int ((1 : Nat) : Int) = V.int 1) rfl]
  exact k
theorem ok_isLess {f : Addr} {fd : FuncData} (D : Gf K mg "is_less" sIsLess ["one", "other"] f fd) : FnOk P w K mg base CX0 1 f fd ["one", "other"] (spIsLess K) := by
  refine D.F.ok scIsLess (fun vs H Q E h => ?_) (fun cdv A outer s H vs Q E hr h => ?_)
  · obtain ⟨a, b, x, y, z, w, rfl, _⟩ := h
    rfl
  obtain ⟨a, b, x, y, z, w, rfl, h1, h2, bx, bz, k⟩ := h
  refine ⟨_, (pss_one (ps_ret (pe_cmpR op_lt (pe_op op_mul (pe_ix ix_tup (pv 0) pe_int (fun _ _ => rfl)) (pe_ix ix_tup (pv 1) pe_int (fun _ _ => rfl))) (pe_op op_mul (pe_ix ix_tup (pv 1) pe_int (fun _ _ => rfl)) (pe_ix ix_tup (pv 0) pe_int (fun _ _ => rfl))) (nomark _)))), ?_⟩
  exact ⟨_, rfl, a, _, _, _, rfl, rfl, h1, at0, _, rfl, b, _, _, _, rfl, rfl, h2, at1, _, _, rfl, rfl, .inl bx, _, rfl, b, _, _, _, rfl, rfl, h2, at0, _, rfl, a, _, _, _, rfl, rfl, h1, at1, _, _, rfl, rfl, .inl bz, _, _, rfl, rfl, k⟩
theorem ok_plus {f f1 : Addr} {fd fd1 : FuncData} (D : Gf K mg "plus" sPlus ["one", "other"] f fd) (DShare : Gf K mg "share" sShare ["over", "under"] f1 fd1) (hg : mg "gcd" = some (.builtin "math.gcd")) : FnOk P w K mg base CX0 2 f fd ["one", "other"] spPlus := by
  have GShare : FnOk P w K mg base CX0 1 f1 fd1 ["over", "under"] spShare := ok_share DShare hg
  refine D.F.ok scPlus (fun vs H Q E h => ?_) (fun cdv A outer s H vs Q E hr h => ?_)
  · obtain ⟨a, b, x, y, z, w, rfl, _⟩ := h
    rfl
  obtain ⟨a, b, x, y, z, w, rfl, h1, h2, so, su, k⟩ := h
  have x0 := so.x0; have xz := so.xz; have y1 := so.y1; have yz := so.yz; have z0 := su.x0; have zz := su.xz; have w1 := su.y1; have wz := su.yz
  have b1 : x * w ≤ 1000 * 1000 := Int.mul_le_mul xz wz (by omega) (by omega)
  have b2 : z * y ≤ 1000 * 1000 := Int.mul_le_mul zz yz (by omega) (by omega)
  have b3 : y * w ≤ 1000 * 1000 := Int.mul_le_mul yz wz (by omega) (by omega)
  have b4 : 0 ≤ x * w := Int.mul_nonneg x0 (by omega)
  have b5 : 0 ≤ z * y := Int.mul_nonneg z0 (by omega)
  have b6 : 0 < y * w := Int.mul_pos (by omega) (by omega)
  refine ⟨_, (pss_one (ps_ret (pe_call GShare (hr.mono (by decide)) (by rfl) DShare.m DShare.kp DShare.b .nil pass0 (pa_cons (pe_op op_add (pe_op op_mul (pe_ix ix_tup (pv 0) pe_int (fun _ _ => rfl)) (pe_ix ix_tup (pv 1) pe_int (fun _ _ => rfl))) (pe_op op_mul (pe_ix ix_tup (pv 1) pe_int (fun _ _ => rfl)) (pe_ix ix_tup (pv 0) pe_int (fun _ _ => rfl)))) (pa_cons (pe_op op_mul (pe_ix ix_tup (pv 0) pe_int (fun _ _ => rfl)) (pe_ix ix_tup (pv 1) pe_int (fun _ _ => rfl))) pa_nil))))), ?_⟩
  refine ⟨_, rfl, a, _, _, _, rfl, rfl, SqT.of h1, at0, _, rfl, b, _, _, _, rfl, rfl, SqT.of h2, at1, _, _, rfl, rfl, .inl ⟨by omega, by omega⟩, _, rfl, b, _, _, _, rfl, rfl, SqT.of h2, at0, _, rfl, a, _, _, _, rfl, rfl, SqT.of h1, at1, _, _, rfl, rfl, .inl ⟨by omega, by omega⟩, _, _, rfl, rfl,
    _, rfl, a, _, _, _, rfl, rfl, SqT.of h1, at1, _, rfl, b, _, _, _, rfl, rfl, SqT.of h2, at1, _, _, rfl, rfl, .inl ⟨by omega, by omega⟩, x * w + z * y, y * w, rfl, b6, by omega, fun p hp => ?_⟩
  have g0 := gc_pos (a := x * w + z * y) b6
  obtain ⟨u, hu⟩ := gc_dl (x * w + z * y) (y * w)
  obtain ⟨v, hv⟩ := gc_dr (x * w + z * y) (y * w)
  have d1 : (x * w + z * y) / gc (x * w + z * y) (y * w) = u := by
    conv => lhs; lhs; rw [hu]
    exact Int.mul_ediv_cancel_left _ (by omega)
  have d2 : y * w / gc (x * w + z * y) (y * w) = v := by
    conv => lhs; lhs; rw [hv]
    exact Int.mul_ediv_cancel_left _ (by omega)
  rw [d1, d2]
  generalize gc (x * w + z * y) (y * w) = g at *
  have v0 : 0 < v := by
    rw [hv] at b6
    refine Int.lt_of_not_ge fun z => ?_
    have := Int.mul_le_mul_of_nonneg_left z (show 0 ≤ g by omega)
    omega
  have u0 : 0 ≤ u := by
    have : 0 ≤ g * u := by rw [← hu]; omega
    refine Int.le_of_not_gt fun z => ?_
    have q := Int.mul_le_mul_of_nonneg_left (show u ≤ -1 by omega) (show 0 ≤ g by omega)
    omega
  have u1 : u ≤ g * u := by
    have := Int.mul_le_mul_of_nonneg_right (show 1 ≤ g by omega) u0
    omega
  have v1 : v ≤ g * v := by
    have := Int.mul_le_mul_of_nonneg_right (show 1 ≤ g by omega) (show 0 ≤ v by omega)
    omega
  refine k p u v hp v0 ?_ u0 (by omega) (by omega)
  rw [hu, hv]
  ac_rfl
theorem ok_within {f f1 f2 f3 cW : Addr} {fd fd1 fd2 fd3 : FuncData} (D : Gf K mg "is_within_whole" sIsWithinWhole ["value"] f fd) (DIsShare : Gf K mg "is_share" sIsShare ["value"] f1 fd1) (DIsLess : Gf K mg "is_less" sIsLess ["one", "other"] f2 fd2)
    (DIsNumber : Gd K mg "is_number" sIsNumber [.non] f3 fd3) (b : Bi mg) (hg : mg "gcd" = some (.builtin "math.gcd")) (hW : mg "WHOLE" = some (.ref cW)) (kW : ∀ H, SqT K H cW [.int 1, .int 1]) :
    FnOk P w K mg base CX0 3 f fd ["value"] spWithin := by
  have GIsShare : FnOk P w K mg base CX0 2 f1 fd1 ["value"] spIsShare := ok_isShare DIsShare DIsNumber b hg
  have GIsLess : FnOk P w K mg base CX0 1 f2 fd2 ["one", "other"] (spIsLess K) := ok_isLess DIsLess
  refine D.F.ok scIsWithinWhole (fun vs H Q E h => ?_) (fun cdv A outer s H vs Q E hr h => ?_)
  · obtain ⟨a, x, y, rfl, _⟩ := h
    rfl
  obtain ⟨a, x, y, rfl, hp, so, xy, k⟩ := h
  refine ⟨_, (pss_one (ps_ret (pe_and (pe_call GIsShare (hr.mono (by decide)) (by rfl) DIsShare.m DIsShare.kp DIsShare.b .nil pass0 (pa_cons (pv 0) pa_nil)) (pe_one (pe_not (pe_call GIsLess (hr.mono (by decide)) (by rfl) DIsLess.m DIsLess.kp DIsLess.b .nil pass0 (pa_cons (pe_glob (v := .ref cW) (by rfl) hW rfl) (pa_cons (pv 0) pa_nil)))))))), ?_⟩
  refine ⟨_, rfl, a, x, y, rfl, hp, so, true, rfl, iteT ?_⟩
  refine ⟨_, rfl, cW, a, 1, 1, x, y, rfl, kW _, SqT.of hp, ⟨by decide, by decide⟩, ⟨by have := so.x0; omega, by have := so.xz; omega⟩, _, rfl, ?_⟩
  rw [decide_eq_false (show ¬ 1 * y < x * 1 by omega)]
  exact k
theorem ok_rising {f f0 f1 f2 f3 cW T : Addr} {fd fd0 fd1 fd2 fd3 : FuncData} (D : Gt K mg base "are_rising" sAreRising ["value"] f fd T) (DIsWithinWhole : Gf K mg "is_within_whole" sIsWithinWhole ["value"] f0 fd0) (DIsShare : Gf K mg "is_share" sIsShare ["value"] f1 fd1) (DIsLess : Gf K mg "is_less" sIsLess ["one", "other"] f2 fd2)
    (DIsNumber : Gd K mg "is_number" sIsNumber [.non] f3 fd3) (b : Bi mg) (hg : mg "gcd" = some (.builtin "math.gcd")) (hW : mg "WHOLE" = some (.ref cW)) (kW : ∀ H, SqT K H cW [.int 1, .int 1]) :
    FnOk P w K mg base CX0 5 f fd ["value"] (spRising K T) := by
  have GIsWithinWhole : FnOk P w K mg base CX0 3 f0 fd0 ["value"] spWithin := ok_within DIsWithinWhole DIsShare DIsLess DIsNumber b hg hW kW
  have GIsLess : FnOk P w K mg base CX0 1 f2 fd2 ["one", "other"] (spIsLess K) := ok_isLess DIsLess
  refine D.ok scAreRising (fun vs H Q E h => ?_) (fun c A outer s H vs Q E TB hr h => ?_)
  · obtain ⟨a, B, t, qs, rfl, _⟩ := h
    rfl
  obtain ⟨a, B, t, qs, rfl, hl, sh, ne, few, tab, k⟩ := h
  refine ⟨_, (pss_cons (ps_if (PW.pt (pw_or (pt_not (pt_val (pe_callB call_isi (by rfl) b.isinstance b_isi (pa_cons (pv 0) (pa_cons (pe_bltn (v := .ty "list") (by rfl) b.list b_list rfl) pa_nil))))) (pw_or1 (pt_not (pt_truth (pv 0) (by intro _; rfl)))))) (pss_one (ps_ret pe_bl)) pss_nil) (pss_cons (ps_if (pt_not (pt_val (pe_allG (k := 3) (own := [("each", 1)]) (g := (gName 1)) (hr.mono (by decide)) (by rfl) b.all TB rfl scAreRising.nd (blkOk_by (own := [("each", 1)]) (N := ["value", "each", "place"]) (sc := defScope sAreRising) (by decide +kernel)) ⟨rfl, by decide +kernel, rfl⟩ (pi_list (pv 0)) (fun _ _ _ _ _ _ _ hrg => (pg_name (i := 1) scAreRising.nd rfl (.inl rfl))) (fun _ _ _ _ _ _ _ hrg => (pe_call GIsWithinWhole (hrg.mono (by decide)) (by rfl) DIsWithinWhole.m DIsWithinWhole.kp DIsWithinWhole.b .nil pass0 (pa_cons (pv 1) pa_nil)))))) (pss_one (ps_ret pe_bl)) pss_nil) (pss_one (ps_ret (pe_not (pe_anyG (k := 3) (own := [("place", 2)]) (g := (gName 2)) (hr.mono (by decide)) (by rfl) b.any TB rfl scAreRising.nd (blkOk_by (own := [("place", 2)]) (N := ["value", "each", "place"]) (sc := defScope sAreRising) (by decide +kernel)) ⟨rfl, by decide +kernel, rfl⟩ (pi_range2 (by rfl) b.range (pa_cons pe_int (pa_cons (pe_callB call_len_seq (by rfl) b.len PySem.boot_len (pa_cons (pv 0) pa_nil)) pa_nil))) (fun _ _ _ _ _ _ _ hrg => (pg_name (i := 2) scAreRising.nd rfl (.inl rfl))) (fun _ _ _ _ _ _ _ hrg => (pe_call GIsLess (hrg.mono (by decide)) (by rfl) DIsLess.m DIsLess.kp DIsLess.b .nil pass0 (pa_cons (pe_ix (r := rIxL K) ix_list (pv 0) (pv 2) (fun _ _ => rfl)) (pa_cons (pe_ix (r := rIxL K) ix_list (pv 0) (pe_op op_sub (pv 2) pe_int) (fun _ _ => rfl)) pa_nil)))))))))), ?_⟩
  refine ⟨_, rfl, _, _, _, _, true, rfl, .ty _, .base (.lst hl), kit_list_list, true, rfl, iteF ?_⟩
  refine ⟨_, rfl, !(refsOf qs).isEmpty, .inl ⟨refsOf qs, SqL.of hl, rfl⟩, ?_⟩
  have e0 : (refsOf qs).isEmpty = false := by
    cases qs with
    | nil => exact absurd rfl ne
    | cons q r => rfl
  rw [e0]
  refine iteF ⟨_, rfl, a, rfl, ⟨_, SqL.of hl⟩, tab, g_list (K := K) (xs := refsOf qs) (fun _ H2 => Sm H H2) (fun H2 h => Sm.tabbed tab h) (fun i H2 _ s2 => s2.seqL (SqL.of hl)) (fun i x H2 hx s2 => ?_) fun H2 s2 => ?_⟩
  · obtain ⟨q, hq, rfl⟩ := refs_get hx
    obtain ⟨h1, h2, h3, h4⟩ := sh.at_ i q hq
    exact ⟨rfl, _, rfl, q.1, q.2.1, q.2.2, rfl, s2.tup h1, h2, h3, true, rfl, s2⟩
  refine ⟨true, rfl, iteF ?_⟩
  have tab2 := s2.tabG tab
  refine ⟨_, rfl, a, _, rfl, .inl (s2.seqL (SqL.of hl)), 1, _, rfl, ⟨by decide, by decide, ?_, ?_⟩, tab2, g_range (lo := 1) (fun _ H3 => Sm H2 H3) (fun H3 h => Sm.tabbed tab2 h) (fun i H3 hi s3 => ?_) fun H3 s3 => ?_⟩
  · omega
  · unfold refsOf
    rw [List.length_map]
    omega
  · have sl := (s2.trans s3).lst hl
    have ll : (refsOf qs).length = qs.length := List.length_map _
    rw [ll] at hi
    have i1 : i + 1 < qs.length := by omega
    obtain ⟨h1, h2, h3, h4⟩ := sh.at_ i _ (List.getElem?_eq_getElem (show i < qs.length by omega))
    obtain ⟨g1, g2, g3, g4⟩ := sh.at_ (i + 1) _ (List.getElem?_eq_getElem i1)
    have a0 : atI (refsOf qs) (1 + (i : Int)) = some (.ref qs[i + 1].1) := by
      rw [show (1 + (i : Int)) = ((i + 1 : Nat) : Int) by omega]
      exact atI_nat (by unfold refsOf; rw [List.getElem?_map, List.getElem?_eq_getElem i1]; rfl)
    have a1 : atI (refsOf qs) (1 + (i : Int) - 1) = some (.ref (qs[i]'(by omega)).1) := by
      rw [show (1 + (i : Int) - 1) = ((i : Nat) : Int) by omega]
      exact atI_nat (by unfold refsOf; rw [List.getElem?_map, List.getElem?_eq_getElem (show i < qs.length by omega)]; rfl)
    refine ⟨rfl, _, rfl, _, rfl, a, _, _, _, rfl, rfl, SqL.of sl, a0, _, rfl, _, rfl, _, _, rfl, rfl, a, _, _, _, rfl, rfl, SqL.of sl, a1, _, _, _, _, _, _, rfl, SqT.of ((s2.trans s3).tup g1), SqT.of ((s2.trans s3).tup h1), ⟨by have := g2.x0; omega, by have := g2.xz; omega⟩, ⟨by have := h2.x0; omega, by have := h2.xz; omega⟩, false, ?_, s3⟩
    rw [decide_eq_false]
    intro lt
    have up := sh.up i (i + 1) (by omega)
    have := (less_t sh.b1 h2.y1 g2.y1 h4 g4).mp lt
    omega
  · exact ⟨_, rfl, k H3 (s2.trans s3)⟩
theorem ok_few {f f0 f1 f2 f3 f4 f5 f6 cW T : Addr} {fd fd0 fd1 fd2 fd3 fd4 fd5 fd6 : FuncData} (D : Gf K mg "few" sFew ["shares", "off"] f fd) (DAreRising : Gt K mg base "are_rising" sAreRising ["value"] f4 fd4 T) (DPlus : Gf K mg "plus" sPlus ["one", "other"] f5 fd5) (DShare : Gf K mg "share" sShare ["over", "under"] f6 fd6)
    (DIsWithinWhole : Gf K mg "is_within_whole" sIsWithinWhole ["value"] f0 fd0) (DIsShare : Gf K mg "is_share" sIsShare ["value"] f1 fd1) (DIsLess : Gf K mg "is_less" sIsLess ["one", "other"] f2 fd2)
    (DIsNumber : Gd K mg "is_number" sIsNumber [.non] f3 fd3) (b : Bi mg) (hg : mg "gcd" = some (.builtin "math.gcd")) (hW : mg "WHOLE" = some (.ref cW)) (kW : ∀ H, SqT K H cW [.int 1, .int 1]) :
    FnOk P w K mg base CX0 6 f fd ["shares", "off"] (spFew K T) := by
  have GAreRising : FnOk P w K mg base CX0 5 f4 fd4 ["value"] (spRising K T) := ok_rising DAreRising DIsWithinWhole DIsShare DIsLess DIsNumber b hg hW kW
  have GIsShare : FnOk P w K mg base CX0 2 f1 fd1 ["value"] spIsShare := ok_isShare DIsShare DIsNumber b hg
  have GIsLess : FnOk P w K mg base CX0 1 f2 fd2 ["one", "other"] (spIsLess K) := ok_isLess DIsLess
  have GPlus : FnOk P w K mg base CX0 2 f5 fd5 ["one", "other"] spPlus := ok_plus DPlus DShare hg
  refine D.F.ok scFew (fun vs H Q E h => ?_) (fun cdv A outer s H vs Q E hr h => ?_)
  · obtain ⟨l, c, B, t, qs, x, y, rfl, _⟩ := h
    rfl
  obtain ⟨l, c, B, t, qs, x, y, rfl, hl, sh, ne, few, hc, oc, tab, k⟩ := h
  refine ⟨_, (pss_cons (ps_if (PW.pt (pw_or (pt_not (pt_val (pe_call GAreRising (hr.mono (by decide)) (by rfl) DAreRising.m DAreRising.kp DAreRising.b .nil pass0 (pa_cons (pv 0) pa_nil)))) (pw_or1 (pt_not (pt_val (pe_call GIsShare (hr.mono (by decide)) (by rfl) DIsShare.m DIsShare.kp DIsShare.b .nil pass0 (pa_cons (pv 1) pa_nil))))))) (pss_one ps_never) pss_nil) (pss_cons (ps_set (i := 2) scFew.nd rfl (.inl rfl) (pe_lst (pa_cons pe_int pa_nil))) (pss_cons (ps_for PassesOwn.never rfl (pi_range2 (by rfl) b.range (pa_cons pe_int (pa_cons (pe_callB call_len_seq (by rfl) b.len PySem.boot_len (pa_cons (pv 0) pa_nil)) pa_nil))) (pg_name (i := 3) scFew.nd rfl (.inl rfl)) (pss_one (ps_if (pt_val (pe_call GIsLess (hr.mono (by decide)) (by rfl) DIsLess.m DIsLess.kp DIsLess.b .nil pass0 (pa_cons (pe_call GPlus (hr.mono (by decide)) (by rfl) DPlus.m DPlus.kp DPlus.b .nil pass0 (pa_cons (pe_ix ix_list (pv 0) (pe_ix ix_list (pv 2) (pe_un un_neg pe_int) (fun _ _ => rfl)) (fun _ _ => rfl)) (pa_cons (pv 1) pa_nil))) (pa_cons (pe_ix ix_list (pv 0) (pv 3) (fun _ _ => rfl)) pa_nil)))) (pss_one (ps_expr (pe_bm PySem.F.plainAttrs_list PySem.F.slot_list_append PySem.F.type_list_append mt_append (pv 2) (pa_cons (pv 3) pa_nil)))) pss_nil))) (pss_one (ps_ret (pv 2)))))), ?_⟩
  refine ⟨_, rfl, l, B, t, qs, rfl, hl, sh, ne, few, tab, fun H2 s2 => ⟨true, rfl, iteF ?_⟩⟩
  refine ⟨_, rfl, c, x, y, rfl, s2.tup hc, oc, true, rfl, iteF ⟨by show 1 ≤ sizeLine; decide, fun C nC => ?_⟩⟩
  have s3 := s2.trans (Sm.new (o := .lst [V.int 0]) nC)
  have fC : H C = none := s2.free nC
  refine ⟨_, rfl, l, _, rfl, .inl (SqL.of (s3.lst hl)), 1, _, rfl, ⟨by decide, by decide, ?_, ?_⟩, for_range (lo := 1)
    (fun i σ H4 => ∃ v3 : Option V, σ = [some (.ref l), some (.ref c), some (.ref C), v3] ∧ Sm H H4 ∧ H4 C = some (.lst ((gr t (offB B x y) i).map fun n => V.int (n : Nat)))) ⟨none, rfl, s3, upd_same⟩ ?_ ?_⟩
  · omega
  · unfold refsOf
    rw [List.length_map]
    omega
  · rintro i σ H4 hi ⟨v3, rfl, s4, hC⟩
    have ll : (refsOf qs).length = qs.length := List.length_map _
    rw [ll] at hi
    have i1 : i + 1 < qs.length := by omega
    have G := gr_ok (t := t) (o := offB B x y) (offB_irr sh.b1 oc) i
    obtain ⟨m, hm, hla⟩ := G.last
    have hmi : m ≤ i := by have := (la_lt hla).1; omega
    have hmq : m < qs.length := by omega
    obtain ⟨ys, hys⟩ := List.getLast?_eq_some_iff.mp hm
    have am : atI ((gr t (offB B x y) i).map fun n => V.int (n : Nat)) (-1) = some (.int (m : Nat)) := by
      rw [hys, List.map_append]
      exact atI_last _ _
    obtain ⟨h1, h2, h3, h4⟩ := sh.at_ m _ (List.getElem?_eq_getElem hmq)
    obtain ⟨g1, g2, g3, g4⟩ := sh.at_ (i + 1) _ (List.getElem?_eq_getElem i1)
    have a1 : atI (refsOf qs) ((m : Nat) : Int) = some (.ref qs[m].1) := atI_nat (by unfold refsOf; rw [List.getElem?_map, List.getElem?_eq_getElem hmq]; rfl)
    have a2 : atI (refsOf qs) (1 + (i : Int)) = some (.ref qs[i + 1].1) := by
      rw [show (1 + (i : Int)) = ((i + 1 : Nat) : Int) by omega]
      exact atI_nat (by unfold refsOf; rw [List.getElem?_map, List.getElem?_eq_getElem i1]; rfl)
    have sl := s4.lst hl
    refine ⟨_, rfl, _, rfl, 1, rfl, C, _, _, _, rfl, rfl, SqL.of hC, am, l, _, _, _, rfl, rfl, SqL.of sl, a1, _, rfl, _, _, _, _, _, _, rfl, s4.tup h1, s4.tup hc, h2, oc, fun p X Y np Y0 eX X0 X1 Y1 => ?_⟩
    have s5 := Sm.new (o := .tup [V.int X, V.int Y]) np
    refine ⟨_, rfl, _, rfl, l, _, _, _, rfl, rfl, SqL.of (s5.lst sl), a2, _, _, _, _, _, _, rfl, SqT.of upd_same, SqT.of ((s4.trans s5).tup g1), ⟨by omega, by omega⟩, ⟨by have := g2.x0; omega, by have := g2.xz; omega⟩, _, rfl, ?_⟩
    have key : decide (X * qs[i + 1].2.2 < qs[i + 1].2.1 * Y) = offB B x y (t (i + 1)) (t m) := decide_eq_decide.mpr (off_t sh.b1 h2.y1 g2.y1 oc.y1 Y0 h4 g4 eX)
    have step : gr t (offB B x y) (i + 1) = if offB B x y (t (i + 1)) (t m) = true then gr t (offB B x y) i ++ [i + 1] else gr t (offB B x y) i := by
      show (if offB B x y (t (i + 1)) (t ((gr t (offB B x y) i).getLast?.getD 0)) = true then _ else _) = _
      rw [hm]
      rfl
    have hC5 := s5.lst hC
    rw [key]
    cases e : offB B x y (t (i + 1)) (t m) with
    | true =>
      rw [e, if_pos rfl] at step
      refine iteT ⟨_, rfl, .inl ⟨rfl, _, SqL.of hC5⟩, _, rfl, C, _, _, rfl, rfl, hC5, ?_, ?_⟩
      · refine Nat.lt_of_le_of_lt (m := 1000) ?_ (by decide)
        rw [List.length_map]
        have := gr_len t (offB B x y) i
        omega
      · refine ⟨_, rfl, (s4.trans s5).put fC, ?_⟩
        rw [upd_same, step, List.map_append]
        congr 4
        show V.int (1 + (i : Int)) = V.int ((i + 1 : Nat) : Int)
        congr 1
        omega
    | false =>
      rw [e, if_neg (by decide)] at step
      refine iteF ⟨_, rfl, s4.trans s5, ?_⟩
      rw [step]
      exact hC5
  · rintro σ H4 ⟨v3, rfl, s4, hC⟩
    refine ⟨_, rfl, k H4 C s4 fC ?_⟩
    rw [hC]
    have : ((((refsOf qs).length : Nat) : Int) - 1).toNat = qs.length - 1 := by
      unfold refsOf
      rw [List.length_map]
      omega
    rw [this]
end
end Hf
set_option Elab.async false
set_option maxRecDepth 100000
set_option maxHeartbeats 4000000
namespace Hf
open PySem L2 PySem.Spec PyProof.Rows
def spCell (K : PySem.W.Frag) : Sp := fun vs H Q _ => ∃ (a : Addr) (k : Int) (ns : List Int), vs = [.ref a, .int k] ∧ SqL K H a (ns.map V.int) ∧ ns.length ≤ 63 ∧ 0 ≤ k ∧ ∀ (i : Int) (H' : Hp), Sm H H' → Q (.int i) H'
def spNumbers (K : PySem.W.Frag) : Sp := fun vs H Q _ => ∃ (c : Int) (b : Addr) (bs : List Int), vs = [.int c, .ref b] ∧ SqL K H b (bs.map V.int) ∧ bs.length ≤ 900 ∧ (∀ x ∈ bs, 0 < x ∧ x < 1073741824) ∧
  ∀ (p : Addr) (ds : List Int) (H' : Hp), Sm H H' → H p = none → H' p = some (.lst (ds.map V.int)) → ds.length = bs.length → (∀ (i : Nat) (d b : Int), ds[i]? = some d → bs[i]? = some b → 0 ≤ d ∧ d < b) → Q (.ref p) H'
def spLawShare : Sp := fun vs H Q _ => ∃ T B : Int, vs = [.int T, .int B] ∧ 0 ≤ T ∧ T ≤ 1000 ∧ 1 ≤ B ∧ B ≤ 1000 ∧ ∀ (p : Addr) (x y : Int) (H' : Hp), Sm H H' → H p = none → H' p = some (.tup [.int x, .int y]) → OfOk x y → x * B = T * y → (T ≤ B → x ≤ y) → Q (.ref p) H'
def spLawShares (K : PySem.W.Frag) : Sp := fun vs H Q _ => ∃ (a : Addr) (ns : List Int), vs = [.ref a] ∧ SqL K H a (ns.map V.int) ∧ ns.length ≤ 63 ∧
  ∀ (p : Addr) (B : Int) (t : Nat → Int) (qs : List (Addr × Int × Int)) (H' : Hp), Sm H H' → H p = none → H' p = some (.lst (refsOf qs)) → ShL H' B t qs → qs ≠ [] → qs.length ≤ 40 → (∀ i, 0 ≤ t i ∧ t i ≤ B) → Q (.ref p) H'
def spIsOff : Sp := fun vs H Q _ => ∃ (p q r : Addr) (x' y' x y a b : Int), vs = [.ref p, .ref q, .ref r] ∧ H p = some (.tup [.int x', .int y']) ∧ H q = some (.tup [.int x, .int y]) ∧ H r = some (.tup [.int a, .int b]) ∧ OfOk x' y' ∧ OfOk x y ∧ OfOk a b ∧ Q (.bl (decide ((x' * y - x * y') * b > a * y' * y))) H
def nats (cs : List Nat) : List V := cs.map fun n => V.int (n : Nat)
def spShows (K : PySem.W.Frag) : Sp := fun vs H Q _ => ∃ (l d c : Addr) (B : Int) (t : Nat → Int) (qs : List (Addr × Int × Int)) (cs : List Nat) (a b : Int), vs = [.ref l, .ref d, .ref c] ∧ SqL K H l (refsOf qs) ∧ ShL H B t qs ∧ qs.length ≤ 1000 ∧ H d = some (.lst (nats cs)) ∧ H c = some (.tup [.int a, .int b]) ∧ OfOk a b ∧
  ∀ H', Sm H H' → Q (.bl (shB t (offB B a b) cs qs.length)) H'
def spFewest (K : PySem.W.Frag) : Sp := fun vs H Q _ => ∃ (l c : Addr) (B : Int) (t : Nat → Int) (qs : List (Addr × Int × Int)) (a b : Int), vs = [.ref l, .ref c] ∧ SqL K H l (refsOf qs) ∧ ShL H B t qs ∧ qs ≠ [] ∧ qs.length ≤ 8 ∧ H c = some (.tup [.int a, .int b]) ∧ OfOk a b ∧
  ∀ H', Sm H H' → Q (.int ((gr t (offB B a b) (qs.length - 1)).length : Nat)) H'
def spRight (K : PySem.W.Frag) (T : Addr) : Sp := fun vs H Q _ => ∃ (l c : Addr) (B : Int) (t : Nat → Int) (qs : List (Addr × Int × Int)) (a b : Int), vs = [.ref l, .ref c] ∧ H l = some (.lst (refsOf qs)) ∧ ShL H B t qs ∧ qs ≠ [] ∧ qs.length ≤ 900 ∧ H c = some (.tup [.int a, .int b]) ∧ OfOk a b ∧ Tab H T ∧
  ∀ H', Sm H H' → Q (.bl true) H'
theorem low_ok {T B : Int} (T0 : 0 ≤ T) (T1 : T ≤ 1000) (B0 : 1 ≤ B) (B1 : B ≤ 1000) : OfOk (T / gc T B) (B / gc T B) ∧ T / gc T B * B = T * (B / gc T B) ∧ (T ≤ B → T / gc T B ≤ B / gc T B) := by
  have g0 := gc_pos (a := T) (show 0 < B by omega)
  obtain ⟨u, hu⟩ := gc_dl T B
  obtain ⟨v, hv⟩ := gc_dr T B
  have d1 : T / gc T B = u := by
    conv => lhs; lhs; rw [hu]
    exact Int.mul_ediv_cancel_left _ (by omega)
  have d2 : B / gc T B = v := by
    conv => lhs; lhs; rw [hv]
    exact Int.mul_ediv_cancel_left _ (by omega)
  have cop : Nat.gcd u.natAbs v.natAbs = 1 := by
    have e : Nat.gcd T.natAbs B.natAbs = (gc T B).natAbs * Nat.gcd u.natAbs v.natAbs := by
      have eT : T.natAbs = (gc T B).natAbs * u.natAbs := by have := congrArg Int.natAbs hu; rwa [Int.natAbs_mul] at this
      have eB : B.natAbs = (gc T B).natAbs * v.natAbs := by have := congrArg Int.natAbs hv; rwa [Int.natAbs_mul] at this
      rw [eT, eB, Nat.gcd_mul_left]
    have e2 : (gc T B).natAbs = Nat.gcd T.natAbs B.natAbs := by unfold gc; exact Int.natAbs_natCast _
    rw [e2] at e
    have p : 0 < Nat.gcd T.natAbs B.natAbs := Nat.gcd_pos_of_pos_right _ (by omega)
    exact Nat.eq_of_mul_eq_mul_left p (by omega)
  rw [d1, d2]
  generalize gc T B = g at *
  have v0 : 0 < v := by
    refine Int.lt_of_not_ge fun z => ?_
    have := Int.mul_le_mul_of_nonneg_left z (show 0 ≤ g by omega)
    omega
  have u0 : 0 ≤ u := by
    refine Int.le_of_not_gt fun z => ?_
    have q := Int.mul_le_mul_of_nonneg_left (show u ≤ -1 by omega) (show 0 ≤ g by omega)
    omega
  have u1 : u ≤ g * u := by
    have := Int.mul_le_mul_of_nonneg_right (show 1 ≤ g by omega) u0
    omega
  have v1 : v ≤ g * v := by
    have := Int.mul_le_mul_of_nonneg_right (show 1 ≤ g by omega) (show 0 ≤ v by omega)
    omega
  refine ⟨⟨u0, by omega, by omega, by omega, cop⟩, ?_, fun h => ?_⟩
  · rw [hu, hv]
    ac_rfl
  · refine Int.le_of_not_gt fun z => ?_
    have := Int.mul_lt_mul_of_pos_left z g0
    omega
section
variable {P : Program} {w : World} {K : PySem.W.Frag} {mg : Str → Option Value} {base : Heap}
theorem ok_cell {f : Addr} {fd : FuncData} (D : Gf K mg "_law_cell_at" sLawCellAt ["_law_script", "_law_k"] f fd) (b : Bi mg) : FnOk P w K mg base CX0 6 f fd ["_law_script", "_law_k"] (spCell K) := by
  refine D.F.ok scLawCellAt (fun vs H Q E h => ?_) (fun cdv A outer s H vs Q E hr h => ?_)
  · obtain ⟨a, k, ns, rfl, _⟩ := h
    rfl
  obtain ⟨a, k, ns, rfl, hS, h63, h0, q⟩ := h
  have ln : (ns.map V.int).length = ns.length := List.length_map _
  refine ⟨_, (pss_cons (ps_if (pt_cmpR op_lt (pv 1) (pe_callB call_len_seq (by rfl) b.len PySem.boot_len (pa_cons (pv 0) pa_nil)) (nomark _)) (pss_one (ps_ret (pe_ix ix_list (pv 0) (pv 1) (fun _ _ => rfl)))) pss_nil) (pss_cons (ps_if (pt_cmpR (op_eqD (hu64 hr)) (pv 0) (pe_lst pa_nil) (nomark _)) (pss_one (ps_ret (pe_op op_mul (pv 1) pe_int))) pss_nil) (pss_one (ps_ret (pe_op op_mod (pe_op op_mul (pe_op op_add (pe_ix ix_list (pv 0) (pe_op op_mod (pv 1) (pe_callB call_len_seq (by rfl) b.len PySem.boot_len (pa_cons (pv 0) pa_nil))) (fun _ _ => rfl)) (pv 1)) pe_int) pe_int))))), ?_⟩
  refine ⟨_, rfl, _, rfl, a, _, rfl, .inl hS, _, _, rfl, rfl, _, rfl, ?_⟩
  rw [ln]
  by_cases c1 : k < ((ns.length : Nat) : Int)
  · rw [decide_eq_true c1]
    refine iteT ?_
    obtain ⟨j, rfl⟩ : ∃ j : Nat, k = (j : Int) := ⟨k.toNat, by omega⟩
    have hj : j < ns.length := by omega
    exact ⟨_, rfl, _, rfl, a, _, _, _, rfl, rfl, hS, atI_nat (by rw [List.getElem?_map, List.getElem?_eq_getElem hj]; rfl), q _ H (Sm.refl H)⟩
  · rw [decide_eq_false c1]
    refine iteF ⟨_, rfl, by show 0 ≤ sizeLine; decide, fun p hp => ?_⟩
    have s1 : Sm H (upd H p (.lst [])) := Sm.new hp
    refine ⟨_, _, .lst (s1.seqL hS) (intsDp ns), .lst (SqL.of upd_same) .nil, ints_shaped ns, nil_shaped, _, rfl, ?_⟩
    cases ns with
    | nil =>
      rw [show PyData.eqv (.list (([] : List Int).map PyData.int)) (.list []) = true from rfl]
      exact iteT ⟨_, rfl, _, _, rfl, rfl, .inr ⟨by decide, by decide⟩, q _ _ s1⟩
    | cons n r =>
      rw [show PyData.eqv (.list ((n :: r).map PyData.int)) (.list []) = false from rfl]
      have pos : (0 : Int) < (((n :: r).length : Nat) : Int) := by simp only [List.length_cons]; omega
      have m0 := Int.emod_nonneg k (show (((n :: r).length : Nat) : Int) ≠ 0 by omega)
      have m1 := Int.emod_lt_of_pos k pos
      obtain ⟨j, hj⟩ : ∃ j : Nat, k % (((n :: r).length : Nat) : Int) = (j : Int) := ⟨(k % (((n :: r).length : Nat) : Int)).toNat, by omega⟩
      have jl : j < (n :: r).length := by omega
      refine iteF ⟨_, rfl, _, rfl, _, rfl, a, _, rfl, .inl (s1.seqL hS), _, _, rfl, rfl, ?_⟩
      rw [ln]
      refine ⟨pos, a, _, _, _, rfl, rfl, s1.seqL hS, at_of (j := j) (v := V.int (n :: r)[j]) hj (by rw [List.getElem?_map, List.getElem?_eq_getElem jl]; rfl), _, rfl, _, _, rfl, rfl, _, _, rfl, rfl, .inr ⟨by decide, by decide⟩, _, _, rfl, rfl, by show (0 : Int) < 2147483647; decide, q _ _ s1⟩
theorem ok_numbers {f : Addr} {fd : FuncData} (D : Gf K mg "_law_numbers" sLawNumbers ["_law_cell", "_law_bounds"] f fd) : FnOk P w K mg base CX0 1 f fd ["_law_cell", "_law_bounds"] (spNumbers K) := by
  refine D.F.ok scLawNumbers (fun vs H Q E h => ?_) (fun cdv A outer s H vs Q E hr h => ?_)
  · obtain ⟨c, b, bs, rfl, _⟩ := h
    rfl
  obtain ⟨c, b, bs, rfl, hB, few, hb, q⟩ := h
  refine ⟨_, (pss_cons (ps_set (i := 2) scLawNumbers.nd rfl (.inl rfl) (pv 0)) (C8.pss_cut (ps_if (pt_cmpR op_lt (pv 0) (pe_op op_pow pe_int pe_int) (nomark _)) (pss_one (ps_set (i := 2) scLawNumbers.nd rfl (.inl rfl) (pe_op op_fdiv (pe_op op_pow (pe_op op_add (pe_op op_mul (pe_op op_mod (pv 0) pe_int) pe_int) pe_int) pe_int) pe_int))) pss_nil) (pss_cons (ps_set (i := 3) scLawNumbers.nd rfl (.inl rfl) (pe_lst pa_nil)) (pss_cons (ps_for PassesOwn.never rfl (pi_list (pv 1)) (pg_name (i := 4) scLawNumbers.nd rfl (.inl rfl)) (pss_cons (ps_expr (pe_bm PySem.F.plainAttrs_list PySem.F.slot_list_append PySem.F.type_list_append mt_append (pv 3) (pa_cons (pe_op op_mod (pv 2) (pv 4)) pa_nil))) (pss_one (ps_set (i := 2) scLawNumbers.nd rfl (.inl rfl) (pe_op op_fdiv (pv 2) (pv 4)))))) (pss_one (ps_ret (pv 3))))))), ?_⟩
  refine ⟨_, rfl, fun σ H1 => ∃ r : Int, σ = [some (.int c), some (.ref b), some (.int r), none, none] ∧ H1 = H, ?_, ?_⟩
  · refine ⟨_, rfl, _, _, rfl, rfl, ⟨by decide, by decide, by decide⟩, _, _, rfl, rfl, _, rfl, ?_⟩
    by_cases c1 : c < (10 : Int) ^ (18 : Int).toNat
    · rw [decide_eq_true c1]
      have m0 := Int.emod_nonneg c (show (2147483647 : Int) ≠ 0 by decide)
      have m1 := Int.emod_lt_of_pos c (show (0 : Int) < 2147483647 by decide)
      refine iteT ⟨_, rfl, _, _, rfl, rfl, by show (0 : Int) < 2147483647; decide, _, _, rfl, rfl, .inr ⟨by decide, by decide⟩, _, _, rfl, rfl, _, _, rfl, rfl, ⟨by decide, by decide, ?_⟩, _, _, rfl, rfl, ⟨by decide, by decide⟩, ⟨_, rfl, rfl⟩⟩
      show (c % 2147483647 * 48271 + 12345).natAbs < 2 ^ 64
      omega
    · rw [decide_eq_false c1]
      exact iteF ⟨_, rfl, rfl⟩
  rintro σ H1 ⟨r, rfl, rfl⟩
  refine ⟨by show 0 ≤ sizeLine; decide, fun p hp => ?_⟩
  have s1 : Sm H1 (upd H1 p (.lst [])) := Sm.new hp
  refine ⟨_, rfl, b, rfl, ⟨_, s1.seqL hB⟩, for_list (K := K) (a := b) (xs := bs.map V.int)
    (fun i σ H2 => ∃ (z : Int) (v4 : Option V) (ds : List Int), σ = [some (.int c), some (.ref b), some (.int z), some (.ref p), v4] ∧ Sm H1 H2 ∧ H2 p = some (.lst (ds.map V.int)) ∧ ds.length = i ∧ ∀ (m : Nat) (d y : Int), ds[m]? = some d → bs[m]? = some y → 0 ≤ d ∧ d < y)
    ⟨r, none, [], rfl, s1, upd_same, rfl, fun m d y e _ => by simp at e⟩ (fun i σ H2 _ hh => ?_) ?_ ?_⟩
  · obtain ⟨_, _, _, _, s2, _⟩ := hh
    exact s2.seqL hB
  · rintro i x σ H2 hx ⟨z, v4, ds, rfl, s2, hp2, hl, hd⟩
    rw [List.getElem?_map] at hx
    obtain ⟨y, hy, rfl⟩ : ∃ y, bs[i]? = some y ∧ V.int y = x := by
      cases e : bs[i]? with
      | none => rw [e] at hx; cases hx
      | some y => rw [e] at hx; exact ⟨y, rfl, Option.some.inj hx⟩
    obtain ⟨y0, y1⟩ := hb y (List.mem_of_getElem? hy)
    have il : i < bs.length := (List.getElem?_eq_some_iff.mp hy).1
    refine ⟨_, rfl, .inl ⟨rfl, _, SqL.of hp2⟩, _, rfl, _, rfl, _, _, rfl, rfl, y0, p, _, _, rfl, rfl, hp2, ?_, ?_⟩
    · rw [List.length_map]
      exact Nat.lt_of_le_of_lt (show ds.length ≤ 1000 by omega) (by decide)
    refine ⟨_, rfl, _, rfl, _, _, rfl, rfl, ⟨y0, y1⟩, ?_⟩
    refine ⟨z / y, some (.int y), ds ++ [z % y], rfl, s2.put hp, ?_, by rw [List.length_append, hl]; rfl, fun m d u e1 e2 => ?_⟩
    · rw [upd_same, List.map_append]
      rfl
    · by_cases hm : m = i
      · subst hm
        rw [List.getElem?_append_right (by omega), hl, Nat.sub_self] at e1
        cases e1
        rw [hy] at e2
        cases e2
        exact ⟨Int.emod_nonneg _ (by omega), Int.emod_lt_of_pos _ y0⟩
      · have hm2 : m < ds.length := by
          have q1 := (List.getElem?_eq_some_iff.mp e1).1
          rw [List.length_append] at q1
          have q2 : ([z % y] : List Int).length = 1 := rfl
          omega
        rw [List.getElem?_append_left hm2] at e1
        exact hd m d u e1 e2
  · rintro σ H2 ⟨z, v4, ds, rfl, s2, hp2, hl, hd⟩
    refine ⟨_, rfl, q p ds H2 s2 hp hp2 ?_ hd⟩
    rw [hl, List.length_map]
theorem ok_isOff {f : Addr} {fd : FuncData} (D : Gf K mg "_law_is_off" sLawIsOff ["_law_one", "_law_other", "_law_off"] f fd) : FnOk P w K mg base CX0 1 f fd ["_law_one", "_law_other", "_law_off"] spIsOff := by
  refine D.F.ok scLawIsOff (fun vs H Q E h => ?_) (fun cdv A outer s H vs Q E hr h => ?_)
  · obtain ⟨p, q, r, x', y', x, y, a, b, rfl, _⟩ := h
    rfl
  obtain ⟨p, q, r, x', y', x, y, a, b, rfl, h1, h2, h3, o1, o2, o3, k⟩ := h
  have := o1.x0; have := o1.xz; have := o1.y1; have := o1.yz; have := o2.x0; have := o2.xz; have := o2.y1; have := o2.yz; have := o3.x0; have := o3.xz; have := o3.y1; have := o3.yz
  refine ⟨_, (pss_cons (ps_set (i := 3) scLawIsOff.nd rfl (.inl rfl) (pe_op op_sub (pe_op op_mul (pe_ix ix_tup (pv 0) pe_int (fun _ _ => rfl)) (pe_ix ix_tup (pv 1) pe_int (fun _ _ => rfl))) (pe_op op_mul (pe_ix ix_tup (pv 1) pe_int (fun _ _ => rfl)) (pe_ix ix_tup (pv 0) pe_int (fun _ _ => rfl))))) (pss_one (ps_ret (pe_cmpR op_gt (pe_op op_mul (pv 3) (pe_ix ix_tup (pv 2) pe_int (fun _ _ => rfl))) (pe_op op_mul (pe_op op_mul (pe_ix ix_tup (pv 2) pe_int (fun _ _ => rfl)) (pe_ix ix_tup (pv 0) pe_int (fun _ _ => rfl))) (pe_ix ix_tup (pv 1) pe_int (fun _ _ => rfl))) (nomark _))))), ?_⟩
  refine ⟨_, rfl, p, _, _, _, rfl, rfl, SqT.of h1, at0, _, rfl, q, _, _, _, rfl, rfl, SqT.of h2, at1, _, _, rfl, rfl, .inl ⟨by omega, by omega⟩, _, rfl, q, _, _, _, rfl, rfl, SqT.of h2, at0, _, rfl, p, _, _, _, rfl, rfl, SqT.of h1, at1, _, _, rfl, rfl, .inl ⟨by omega, by omega⟩, _, _, rfl, rfl, ?_⟩
  refine ⟨_, rfl, _, rfl, r, _, _, _, rfl, rfl, SqT.of h3, at1, _, _, rfl, rfl, .inr ⟨by omega, by omega⟩, _, rfl, r, _, _, _, rfl, rfl, SqT.of h3, at0, _, rfl, p, _, _, _, rfl, rfl, SqT.of h1, at1, _, _, rfl, rfl, .inr ⟨by omega, by omega⟩, _, rfl, q, _, _, _, rfl, rfl, SqT.of h2, at1, _, _, rfl, rfl, .inr ⟨by omega, by omega⟩, _, _, rfl, rfl, k⟩
theorem ok_lawShare {f : Addr} {fd : FuncData} (D : Gf K mg "_law_share" sLawShare ["_law_top", "_law_bottom"] f fd) (b : Bi mg) : FnOk P w K mg base CX0 1 f fd ["_law_top", "_law_bottom"] spLawShare := by
  refine D.F.ok scLawShare (fun vs H Q E h => ?_) (fun cdv A outer s H vs Q E hr h => ?_)
  · obtain ⟨T, B, rfl, _⟩ := h
    rfl
  obtain ⟨T, B, rfl, T0, T1, B0, B1, k⟩ := h
  refine ⟨_, (pss_cons (ps_set (i := 2) scLawShare.nd rfl (.inl rfl) (pe_callB (cr_max rfl) (by rfl) b.max boot_max (pa_cons (pe_lc (own := [("_law_k", 3)]) (g := (gName 3)) rfl scLawShare.nd (pi_range2 (by rfl) b.range (pa_cons pe_int (pa_cons (pe_op op_add (pv 1) pe_int) pa_nil))) (blkOk_by (own := [("_law_k", 3)]) (N := ["_law_top", "_law_bottom", "_law_part", "_law_k"]) (sc := defScope sLawShare) (by decide +kernel)) (fun _ _ _ _ _ => (pg_name (i := 3) scLawShare.nd rfl (.inl rfl))) (fun _ _ _ _ _ => (pts_one (PW.pt (pw_and (pt_cmpR op_eq (pe_op op_mod (pv 0) (pv 3)) pe_int (nomark _)) (pw_and1 (pt_cmpR op_eq (pe_op op_mod (pv 1) (pv 3)) pe_int (nomark _))))))) (fun _ _ _ _ _ => (pv 3))) pa_nil))) (pss_one (ps_ret (pe_tup (pa_cons (pe_op op_fdiv (pv 0) (pv 2)) (pa_cons (pe_op op_fdiv (pv 1) (pv 2)) pa_nil)))))), ?_⟩
  refine ⟨_, rfl, _, _, rfl, rfl, 1, _, rfl, ⟨by decide, by decide, by omega, by omega⟩, fun p np => lc_range (lo := 1) (n := (B + 1 - 1).toNat) (fun i H2 => ∃ ms : List Int, Sm H H2 ∧ H2 p = some (.lst (ms.map V.int)) ∧ ms.length ≤ i ∧ ∀ m : Int, m ∈ ms ↔ 1 ≤ m ∧ m ≤ i ∧ m ∣ T ∧ m ∣ B) ⟨[], Sm.new np, upd_same, Nat.le_refl _, fun m => ?_⟩ ?_ ?_⟩
  · constructor
    · intro h; cases h
    · rintro ⟨h1, h2, _⟩; omega
  · rintro i H2 hi ⟨ms, s2, hp2, lm, hm⟩
    refine ⟨rfl, _, rfl, _, rfl, _, _, rfl, rfl, by omega, rfl, _, rfl, ?_⟩
    have dv : ∀ Z : Int, decide (V.int (Z % (1 + (i : Int))) = V.int 0) = decide ((1 + (i : Int)) ∣ Z) := fun Z => decide_eq_decide.mpr ⟨fun e => Int.dvd_of_emod_eq_zero (V.int.inj e), fun e => congrArg V.int (Int.emod_eq_zero_of_dvd e)⟩
    have mem : ∀ m : Int, (m ≤ ((i + 1 : Nat) : Int) ↔ m ≤ i ∨ m = 1 + (i : Int)) := fun m => by omega
    have skip : ¬ ((1 + (i : Int)) ∣ T ∧ (1 + (i : Int)) ∣ B) → ∃ ms : List Int, Sm H H2 ∧ H2 p = some (.lst (ms.map V.int)) ∧ ms.length ≤ i + 1 ∧ ∀ m : Int, m ∈ ms ↔ 1 ≤ m ∧ m ≤ ((i + 1 : Nat) : Int) ∧ m ∣ T ∧ m ∣ B := fun no => by
      refine ⟨ms, s2, hp2, by omega, fun m => ?_⟩
      rw [hm m, mem m]
      constructor
      · rintro ⟨h1, h2, h3⟩; exact ⟨h1, .inl h2, h3⟩
      · rintro ⟨h1, h2 | h2, h3, h4⟩
        · exact ⟨h1, h2, h3, h4⟩
        · subst h2; exact absurd ⟨h3, h4⟩ no
    rw [dv T]
    by_cases c1 : (1 + (i : Int)) ∣ T
    · rw [decide_eq_true c1]
      refine iteT ⟨_, rfl, _, rfl, _, _, rfl, rfl, by omega, rfl, _, rfl, ?_⟩
      rw [dv B]
      by_cases c2 : (1 + (i : Int)) ∣ B
      · rw [decide_eq_true c2]
        refine iteT ⟨_, rfl, _, hp2, ?_, ms ++ [1 + (i : Int)], s2.put np, ?_, ?_, fun m => ?_⟩
        · rw [List.length_map]
          exact Nat.lt_of_le_of_lt (show ms.length ≤ 1000 by omega) (by decide)
        · rw [upd_same, List.map_append]
          rfl
        · rw [List.length_append, List.length_singleton]
          omega
        · rw [List.mem_append, List.mem_singleton, hm m, mem m]
          constructor
          · rintro (⟨h1, h2, h3⟩ | h)
            · exact ⟨h1, .inl h2, h3⟩
            · subst h; exact ⟨by omega, .inr rfl, c1, c2⟩
          · rintro ⟨h1, h2 | h2, h3⟩
            · exact .inl ⟨h1, h2, h3⟩
            · exact .inr h2
      · rw [decide_eq_false c2]
        exact iteF (skip fun z => c2 z.2)
    · rw [decide_eq_false c1]
      exact iteF (skip fun z => c1 z.1)
  · rintro H2 ⟨ms, s2, hp2, lm, hm⟩
    have eB : (((B + 1 - 1).toNat : Nat) : Int) = B := by omega
    have g0 := gc_pos (a := T) (show 0 < B by omega)
    have g1 := gc_le (a := T) (show 0 < B by omega)
    have gm : gc T B ∈ ms := (hm _).mpr ⟨by omega, by omega, gc_dl T B, gc_dr T B⟩
    refine ⟨p, ms, rfl, SqL.of hp2, List.length_pos_of_mem gm, fun m mm top => ?_⟩
    obtain ⟨m1, m2, m3, m4⟩ := (hm m).mp mm
    have mg : m = gc T B := by
      have h1 := top _ gm
      have h2 : m ∣ gc T B := by
        unfold gc
        refine Int.ofNat_dvd_right.mpr ?_
        exact Nat.dvd_gcd (Int.natAbs_dvd_natAbs.mpr m3) (Int.natAbs_dvd_natAbs.mpr m4)
      have h3 := Int.le_of_dvd g0 h2
      omega
    subst mg
    refine ⟨_, rfl, _, rfl, _, _, rfl, rfl, ⟨by omega, by omega⟩, _, rfl, _, rfl, _, _, rfl, rfl, ⟨by omega, by omega⟩, by show 2 ≤ sizeLine; decide, fun r nr => ?_⟩
    have s3 := s2.trans (Sm.new (o := .tup [V.int (T / gc T B), V.int (B / gc T B)]) nr)
    obtain ⟨l1, l2, l3⟩ := low_ok T0 T1 B0 B1
    exact k r (T / gc T B) (B / gc T B) _ s3 (s2.free nr) upd_same l1 l2 l3
theorem ok_lawShares {f f1 f2 : Addr} {fd fd1 fd2 : FuncData} (D : Gf K mg "_law_shares" sLawShares ["_law_script"] f fd) (DLawShare : Gf K mg "_law_share" sLawShare ["_law_top", "_law_bottom"] f1 fd1) (DLawCellAt : Gf K mg "_law_cell_at" sLawCellAt ["_law_script", "_law_k"] f2 fd2) (b : Bi mg) :
    FnOk P w K mg base CX0 7 f fd ["_law_script"] (spLawShares K) := by
  have GLawShare : FnOk P w K mg base CX0 1 f1 fd1 ["_law_top", "_law_bottom"] spLawShare := ok_lawShare DLawShare b
  have GLawCellAt : FnOk P w K mg base CX0 6 f2 fd2 ["_law_script", "_law_k"] (spCell K) := ok_cell DLawCellAt b
  refine D.F.ok scLawShares (fun vs H Q E h => ?_) (fun cdv A outer s H vs Q E hr h => ?_)
  · obtain ⟨a, ns, rfl, _⟩ := h
    rfl
  obtain ⟨a, ns, rfl, hS, h63, k⟩ := h
  refine ⟨_, (pss_cons (ps_set (i := 1) scLawShares.nd rfl (.inl rfl) (pe_ix ix_list (pe_lst (pa_cons pe_int (pa_cons pe_int (pa_cons pe_int (pa_cons pe_int pa_nil))))) (pe_op op_mod (pe_call GLawCellAt (hr.mono (by decide)) (by rfl) DLawCellAt.m DLawCellAt.kp DLawCellAt.b .nil pass0 (pa_cons (pv 0) (pa_cons pe_int pa_nil))) pe_int) (fun _ _ => rfl))) (pss_cons (ps_set (i := 2) scLawShares.nd rfl (.inl rfl) (pe_lst pa_nil)) (pss_cons (ps_set (i := 3) scLawShares.nd rfl (.inl rfl) (pe_op op_mod (pe_op op_mod (pe_call GLawCellAt (hr.mono (by decide)) (by rfl) DLawCellAt.m DLawCellAt.kp DLawCellAt.b .nil pass0 (pa_cons (pv 0) (pa_cons pe_int pa_nil))) pe_int) (pe_op op_add (pv 1) pe_int))) (pss_cons (ps_for PassesOwn.never rfl (pi_range1 (by rfl) b.range (pa_cons (pe_op op_add pe_int (pe_op op_mod (pe_call GLawCellAt (hr.mono (by decide)) (by rfl) DLawCellAt.m DLawCellAt.kp DLawCellAt.b .nil pass0 (pa_cons (pv 0) (pa_cons pe_int pa_nil))) pe_int)) pa_nil)) (pg_name (i := 4) scLawShares.nd rfl (.inl rfl)) (pss_cons (ps_expr (pe_bm PySem.F.plainAttrs_list PySem.F.slot_list_append PySem.F.type_list_append mt_append (pv 2) (pa_cons (pe_call GLawShare (hr.mono (by decide)) (by rfl) DLawShare.m DLawShare.kp DLawShare.b .nil pass0 (pa_cons (pv 3) (pa_cons (pv 1) pa_nil))) pa_nil))) (pss_one (ps_set (i := 3) scLawShares.nd rfl (.inl rfl) (pe_callB (call_min2 rfl) (by rfl) b.min b_min (pa_cons (pv 1) (pa_cons (pe_op op_add (pv 3) (pe_op op_fdiv (pe_op op_mod (pe_call GLawCellAt (hr.mono (by decide)) (by rfl) DLawCellAt.m DLawCellAt.kp DLawCellAt.b .nil pass0 (pa_cons (pv 0) (pa_cons (pe_op op_add pe_int (pe_op op_mod (pv 4) pe_int)) pa_nil))) pe_int) pe_int)) pa_nil))))))) (pss_one (ps_ret (pv 2))))))), ?_⟩
  refine ⟨by show 4 ≤ sizeLine; decide, fun p np => ?_⟩
  have s1 := Sm.new (o := .lst [V.int 1, V.int 7, V.int 12, V.int 60]) np
  refine ⟨_, rfl, a, 0, ns, rfl, s1.seqL hS, h63, by decide, fun c0 H2 s2 => ?_⟩
  have pick : ∃ v : Int, atI [V.int 1, V.int 7, V.int 12, V.int 60] (c0 % 4) = some (.int v) ∧ 1 ≤ v ∧ v ≤ 60 := by
    have m0 := Int.emod_nonneg c0 (show (4 : Int) ≠ 0 by decide)
    have m1 := Int.emod_lt_of_pos c0 (show (0 : Int) < 4 by decide)
    rcases (show c0 % 4 = 0 ∨ c0 % 4 = 1 ∨ c0 % 4 = 2 ∨ c0 % 4 = 3 by omega) with e | e | e | e <;> rw [e]
    · exact ⟨1, atI_nat (j := 0) rfl, by decide, by decide⟩
    · exact ⟨7, atI_nat (j := 1) rfl, by decide, by decide⟩
    · exact ⟨12, atI_nat (j := 2) rfl, by decide, by decide⟩
    · exact ⟨60, atI_nat (j := 3) rfl, by decide, by decide⟩
  obtain ⟨B, hB, B1, B2⟩ := pick
  have s12 := s1.trans s2
  refine ⟨_, _, rfl, rfl, by show (0 : Int) < 4; decide, p, _, _, _, rfl, rfl, SqL.of (s2.lst upd_same), hB, by show 0 ≤ sizeLine; decide, fun S nS => ?_⟩
  have s3 := s12.trans (Sm.new (o := .lst []) nS)
  have fS : H S = none := s12.free nS
  refine ⟨_, rfl, a, 1, ns, rfl, s3.seqL hS, h63, by decide, fun c1 H4 s4 => ⟨_, _, rfl, rfl, by show (0 : Int) < 4; decide, _, rfl, _, _, rfl, rfl, _, _, rfl, rfl, by omega, ?_⟩⟩
  have t0 := Int.emod_nonneg (c1 % 4) (show B + 1 ≠ 0 by omega)
  have t1 := Int.emod_lt_of_pos (c1 % 4) (show 0 < B + 1 by omega)
  have s34 := s3.trans s4
  refine ⟨_, rfl, a, 2, ns, rfl, s34.seqL hS, h63, by decide, fun c2 H5 s5 => ?_⟩
  have m0 := Int.emod_nonneg c2 (show (40 : Int) ≠ 0 by decide)
  have m1 := Int.emod_lt_of_pos c2 (show (0 : Int) < 40 by decide)
  have s35 := s34.trans s5
  refine ⟨_, _, rfl, rfl, by show (0 : Int) < 40; decide, _, _, rfl, rfl, 1 + c2 % 40, rfl, by omega, by omega, for_range (lo := 0) (n := (1 + c2 % 40).toNat)
    (fun i σ H6 => ∃ (T : Int) (v4 : Option V) (t : Nat → Int) (qs : List (Addr × Int × Int)), σ = [some (.ref a), some (.int B), some (.ref S), some (.int T), v4] ∧ Sm H H6 ∧ H6 S = some (.lst (refsOf qs)) ∧ qs.length = i ∧ ShL H6 B t qs ∧ (∀ j, 0 ≤ t j ∧ t j ≤ B) ∧ ∀ j, i ≤ j → t j = T)
    ⟨_, none, fun _ => c1 % 4 % (B + 1), [], rfl, s35, (s4.trans s5).lst upd_same, rfl, ⟨fun i q e => by simp at e, B1, fun _ _ _ => Int.le_refl _⟩, fun _ => ⟨t0, by show c1 % 4 % (B + 1) ≤ B; omega⟩, fun _ _ => rfl⟩ ?_ ?_⟩
  · rintro i σ H6 hi ⟨T, v4, t, qs, rfl, s6, hS6, lq, sh, bt, hT⟩
    have T0 : 0 ≤ T ∧ T ≤ B := by rw [← hT i (Nat.le_refl _)]; exact bt i
    refine ⟨_, rfl, .inl ⟨rfl, _, SqL.of hS6⟩, _, rfl, _, rfl, T, B, rfl, T0.1, by omega, B1, by omega, fun q x y H7 s7 nq hq oq eq xy => ?_⟩
    have hS7 := s7.lst hS6
    refine ⟨S, _, _, rfl, rfl, hS7, ?_, ?_⟩
    · unfold refsOf
      rw [List.length_map]
      exact Nat.lt_of_le_of_lt (show qs.length ≤ 1000 by omega) (by decide)
    have s67 := s6.trans s7
    have s8 : Sm H (upd H7 S (.lst (refsOf qs ++ [V.ref q]))) := s67.put fS
    have neS : ∀ b xs, H7 b = some (.tup xs) → b ≠ S := fun b xs e z => by rw [z, hS7] at e; cases e
    have k0 := Int.emod_nonneg (0 + (i : Int)) (show (30 : Int) ≠ 0 by decide)
    refine ⟨_, rfl, _, rfl, _, rfl, _, rfl, _, _, rfl, rfl, by show (0 : Int) < 30; decide, _, _, rfl, rfl, a, _, ns, rfl, s8.seqL hS, h63, by omega, fun c3 H9 s9 => ?_⟩
    have r0 := Int.emod_nonneg c3 (show (9 : Int) ≠ 0 by decide)
    refine ⟨_, _, rfl, rfl, by show (0 : Int) < 9; decide, _, _, rfl, rfl, ⟨by decide, by decide⟩, _, _, rfl, rfl, _, _, rfl, ?_⟩
    have q0 : 0 ≤ c3 % 9 / 3 := Int.ediv_nonneg r0 (by decide)
    refine ⟨_, _, fun j => if j ≤ i then t j else (if T + c3 % 9 / 3 < B then T + c3 % 9 / 3 else B), qs ++ [(q, x, y)], rfl, s8.trans s9, ?_, ?_, ⟨fun j z e => ?_, B1, fun j l hjl => ?_⟩, fun j => ?_, fun j hj => ?_⟩
    · have e := s9.lst (xs := refsOf qs ++ [V.ref q]) (a := S) upd_same
      rw [e]
      unfold refsOf
      rw [List.map_append]
      rfl
    · rw [List.length_append, lq]
      rfl
    · by_cases hj : j < qs.length
      · rw [List.getElem?_append_left hj] at e
        obtain ⟨h1, h2, h3, h4⟩ := sh.at_ j z e
        have h1' := s7.tup h1
        refine ⟨s9.tup (by rw [upd_ne (neS _ _ h1')]; exact h1'), h2, h3, ?_⟩
        rw [if_pos (by omega)]
        exact h4
      · have jl : j < (qs ++ [(q, x, y)]).length := (List.getElem?_eq_some_iff.mp e).1
        rw [List.length_append, List.length_singleton] at jl
        have je : j = qs.length := by omega
        subst je
        rw [List.getElem?_append_right (Nat.le_refl _), Nat.sub_self] at e
        cases e
        refine ⟨s9.tup (by rw [upd_ne (neS _ _ hq)]; exact hq), oq, xy T0.2, ?_⟩
        rw [if_pos (by omega), hT _ (by omega)]
        exact eq
    · show (if j ≤ i then t j else _) ≤ (if l ≤ i then t l else _)
      have tj : t j ≤ T := by
        rcases Nat.le_total j i with h | h
        · have := sh.up j i h
          rw [hT i (Nat.le_refl _)] at this
          exact this
        · rw [hT j h]
          exact Int.le_refl _
      by_cases c1 : j ≤ i
      · rw [if_pos c1]
        by_cases c2 : l ≤ i
        · rw [if_pos c2]
          exact sh.up j l hjl
        · rw [if_neg c2]
          split <;> omega
      · rw [if_neg c1, if_neg (show ¬ l ≤ i by omega)]
        exact Int.le_refl _
    · show 0 ≤ (if j ≤ i then t j else _) ∧ (if j ≤ i then t j else _) ≤ B
      by_cases c1 : j ≤ i
      · rw [if_pos c1]
        exact bt j
      · rw [if_neg c1]
        split <;> omega
    · show (if j ≤ i then t j else _) = _
      rw [if_neg (by omega)]
  · rintro σ H6 ⟨T, v4, t, qs, rfl, s6, hS6, lq, sh, bt, hT⟩
    refine ⟨_, rfl, k S B t qs H6 s6 fS hS6 sh (fun e => ?_) (by omega) bt⟩
    rw [e] at lq
    simp at lq
    omega
theorem sel_bit (i j : Nat) : decide (V.int (Builtin.bitAnd ((0 + (i : Int)) / 2 ^ (0 + (j : Int)).toNat) 1) = V.int 1) = selB i j := by
  unfold selB
  refine decide_eq_decide.mpr ?_
  rw [PyProof.Rows.bitAnd_m1, Int.zero_add, Int.zero_add, Int.toNat_natCast]
  have e : ((i : Int) / 2 ^ j) = ((i / 2 ^ j : Nat) : Int) := by norm_cast
  rw [e]
  constructor
  · intro h
    have := V.int.inj h
    omega
  · intro h
    congr 1
    omega
theorem offB_mon {B a b : Int} (oc : OfOk a b) (x y z : Int) (h : y ≤ z) (e : offB B a b x z = true) : offB B a b x y = true := by
  unfold offB at e ⊢
  have e := of_decide_eq_true e
  have q := Int.mul_le_mul_of_nonneg_right (show x - z ≤ x - y by omega) (show 0 ≤ b by have := oc.y1; omega)
  exact decide_eq_true (by omega)
def lastV : Option Nat → V
  | none => .non
  | some m => .int (m : Nat)
theorem nats_get {cs : List Nat} {i : Nat} {v : V} (h : (nats cs)[i]? = some v) : ∃ c, cs[i]? = some c ∧ v = .int (c : Nat) := by
  unfold nats at h
  rw [List.getElem?_map] at h
  cases e : cs[i]? with
  | none => rw [e] at h; cases h
  | some q => rw [e] at h; exact ⟨q, rfl, (Option.some.inj h).symm⟩
theorem nats_flat : ∀ cs : List Nat, (nats cs).all flatV = true
  | [] => rfl
  | _ :: r => nats_flat r
theorem nats_in (k : Nat) : ∀ cs : List Nat, inV (.int (k : Nat)) (nats cs) = decide (k ∈ cs)
  | [] => rfl
  | c :: r => by
    have ih := nats_in k r
    show (eqV (.int (c : Nat)) (.int (k : Nat)) || inV (.int (k : Nat)) (nats r)) = _
    rw [ih]
    have e : eqV (.int ((c : Nat) : Int)) (.int ((k : Nat) : Int)) = decide (k = c) := by
      show (((c : Nat) : Int) == ((k : Nat) : Int)) = _
      rw [Bool.eq_iff_iff, beq_iff_eq, decide_eq_true_eq]
      omega
    rw [e]
    by_cases h : k = c
    · simp [h]
    · simp [h]
theorem ok_shows {f f1 : Addr} {fd fd1 : FuncData} (D : Gf K mg "_law_shows" sLawShows ["_law_shares_here", "_law_chosen", "_law_off"] f fd) (DLawIsOff : Gf K mg "_law_is_off" sLawIsOff ["_law_one", "_law_other", "_law_off"] f1 fd1) (b : Bi mg) :
    FnOk P w K mg base CX0 2 f fd ["_law_shares_here", "_law_chosen", "_law_off"] (spShows K) := by
  have GLawIsOff : FnOk P w K mg base CX0 1 f1 fd1 ["_law_one", "_law_other", "_law_off"] spIsOff := ok_isOff DLawIsOff
  refine D.F.ok scLawShows (fun vs H Q E h => ?_) (fun cdv A outer s H vs Q E hr h => ?_)
  · obtain ⟨l, d, c, B, t, qs, cs, x, y, rfl, _⟩ := h
    rfl
  obtain ⟨l, d, c, B, t, qs, cs, x, y, rfl, hl, sh, few, hd, hc, oc, k⟩ := h
  have ll : (refsOf qs).length = qs.length := List.length_map _
  refine ⟨_, (pss_cons (ps_set (i := 3) scLawShows.nd rfl (.inl rfl) pe_non) (pss_cons (ps_for PassesOwn.never rfl (pi_range1 (by rfl) b.range (pa_cons (pe_callB call_len_seq (by rfl) b.len PySem.boot_len (pa_cons (pv 0) pa_nil)) pa_nil)) (pg_name (i := 4) scLawShows.nd rfl (.inl rfl)) (pss_cons (ps_if (pt_cmpR op_in_seq (pv 4) (pv 1) (by rfl)) (pss_one (ps_set (i := 3) scLawShows.nd rfl (.inl rfl) (pv 4))) pss_nil) (pss_one (ps_if (PW.pt (pw_or (pt_cmpR op_isN (pv 3) pe_non (nomark _)) (pw_or1 (pt_val (pe_call GLawIsOff (hr.mono (by decide)) (by rfl) DLawIsOff.m DLawIsOff.kp DLawIsOff.b .nil pass0 (pa_cons (pe_ix ix_list (pv 0) (pv 4) (fun _ _ => rfl)) (pa_cons (pe_ix ix_list (pv 0) (pv 3) (fun _ _ => rfl)) (pa_cons (pv 2) pa_nil)))))))) (pss_one (ps_ret pe_bl)) pss_nil)))) (pss_one (ps_ret pe_bl)))), ?_⟩
  refine ⟨_, rfl, l, _, rfl, .inl hl, _, rfl, by omega, by omega, for_range (lo := 0) (n := ((((refsOf qs).length : Nat) : Int)).toNat)
    (fun i σ H2 => ∃ v4 : Option V, σ = [some (.ref l), some (.ref d), some (.ref c), some (lastV (la cs i)), v4] ∧ H2 = H ∧ ∀ k, k < i → ∃ m, la cs (k + 1) = some m ∧ offB B x y (t k) (t m) = false) ⟨none, rfl, rfl, fun k h => by omega⟩ ?_ ?_⟩
  · rintro i σ H2 hi ⟨v4, rfl, rfl, hk⟩
    have iq : i < qs.length := by omega
    rw [Int.zero_add]
    have ai : ∀ (j : Nat) (hj : j < qs.length), atI (refsOf qs) ((j : Nat) : Int) = some (.ref (qs[j]'hj).1) := fun j hj => atI_nat (by unfold refsOf; rw [List.getElem?_map, List.getElem?_eq_getElem hj]; rfl)
    have bad : seen t (offB B x y) cs i = false → Q (.bl false) H2 := fun e => by
      have e2 : shB t (offB B x y) cs qs.length = false := by
        unfold shB
        rw [List.all_eq_false]
        exact ⟨i, List.mem_range.mpr iq, by rw [e]; decide⟩
      have q := k H2 (Sm.refl H2)
      rwa [e2] at q
    refine ⟨_, rfl, _, rfl, d, _, rfl, .inl (SqL.of hd), rfl, nats_flat cs, _, rfl, ?_⟩
    rw [show (if false = true then !inV (.int (i : Nat)) (nats cs) else inV (.int (i : Nat)) (nats cs)) = decide (i ∈ cs) from nats_in i cs]
    by_cases c0 : i ∈ cs
    · rw [decide_eq_true c0]
      have LA : la cs (i + 1) = some i := by show (if i ∈ cs then some i else la cs i) = _; rw [if_pos c0]
      refine iteT ⟨_, rfl, ?_⟩
      · refine ⟨_, rfl, rfl, _, rfl, ?_⟩
        rw [decide_eq_false (p := V.int (i : Nat) = V.non) (by intro z; cases z)]
        have mq := iq
        obtain ⟨g1, g2, g3, g4⟩ := sh.at_ i _ (List.getElem?_eq_getElem iq)
        obtain ⟨h1, h2, h3, h4⟩ := sh.at_ i _ (List.getElem?_eq_getElem mq)
        refine iteF ⟨_, rfl, _, rfl, l, _, _, _, rfl, rfl, hl, ai i iq, _, rfl, _, rfl, l, _, _, _, rfl, rfl, hl, ai i mq, _, rfl, _, _, _, _, _, _, _, _, _, rfl, g1, h1, hc, g2, h2, oc, _, rfl, ?_⟩
        rw [show decide ((qs[i].2.1 * qs[i].2.2 - qs[i].2.1 * qs[i].2.2) * y > x * qs[i].2.2 * qs[i].2.2) = offB B x y (t i) (t i) from decide_eq_decide.mpr (off_l sh.b1 h2.y1 g2.y1 h4 g4)]
        cases e : offB B x y (t i) (t i) with
        | true => exact iteT (bad (by rw [seen_some LA, e]; rfl))
        | false =>
          refine iteF ⟨_, by rw [LA]; rfl, rfl, fun k' hk' => ?_⟩
          by_cases z : k' = i
          · rw [z]
            exact ⟨i, LA, e⟩
          · exact hk k' (by omega)
    · rw [decide_eq_false c0]
      have LA0 : la cs (i + 1) = la cs i := by show (if i ∈ cs then some i else la cs i) = _; rw [if_neg c0]
      refine iteF ?_
      cases ela : la cs i with
      | none =>
        refine ⟨_, rfl, rfl, _, rfl, ?_⟩
        rw [decide_eq_true (p := lastV none = V.non) rfl]
        exact iteT (bad (seen_none (LA0.trans ela)))
      | some m =>
        have LA : la cs (i + 1) = some m := LA0.trans ela
        have mq : m < qs.length := by have := (la_lt ela).1; omega
        refine ⟨_, rfl, rfl, _, rfl, ?_⟩
        rw [decide_eq_false (p := lastV (some m) = V.non) (by intro z; cases z)]
        obtain ⟨g1, g2, g3, g4⟩ := sh.at_ i _ (List.getElem?_eq_getElem iq)
        obtain ⟨h1, h2, h3, h4⟩ := sh.at_ m _ (List.getElem?_eq_getElem mq)
        refine iteF ⟨_, rfl, _, rfl, l, _, _, _, rfl, rfl, hl, ai i iq, _, rfl, _, rfl, l, _, _, _, rfl, rfl, hl, ai m mq, _, rfl, _, _, _, _, _, _, _, _, _, rfl, g1, h1, hc, g2, h2, oc, _, rfl, ?_⟩
        rw [show decide ((qs[i].2.1 * qs[m].2.2 - qs[m].2.1 * qs[i].2.2) * y > x * qs[i].2.2 * qs[m].2.2) = offB B x y (t i) (t m) from decide_eq_decide.mpr (off_l sh.b1 h2.y1 g2.y1 h4 g4)]
        cases e : offB B x y (t i) (t m) with
        | true => exact iteT (bad (by rw [seen_some LA, e]; rfl))
        | false =>
          refine iteF ⟨_, by rw [LA]; rfl, rfl, fun k' hk' => ?_⟩
          by_cases z : k' = i
          · rw [z]
            exact ⟨m, LA, e⟩
          · exact hk k' (by omega)
  · rintro σ H2 ⟨v4, rfl, rfl, hk⟩
    have e2 : shB t (offB B x y) cs qs.length = true := by
      unfold shB
      rw [List.all_eq_true]
      intro j hj
      obtain ⟨m, e, f⟩ := hk j (by have := List.mem_range.mp hj; omega)
      rw [seen_some e, f]
      rfl
    have q := k H2 (Sm.refl H2)
    rwa [e2] at q
theorem ok_fewest {f f1 f2 : Addr} {fd fd1 fd2 : FuncData} (D : Gf K mg "_law_fewest" sLawFewest ["_law_shares_here", "_law_off"] f fd) (DLawShows : Gf K mg "_law_shows" sLawShows ["_law_shares_here", "_law_chosen", "_law_off"] f2 fd2) (DLawIsOff : Gf K mg "_law_is_off" sLawIsOff ["_law_one", "_law_other", "_law_off"] f1 fd1) (b : Bi mg) :
    FnOk P w K mg base CX0 3 f fd ["_law_shares_here", "_law_off"] (spFewest K) := by
  have GLawShows : FnOk P w K mg base CX0 2 f2 fd2 ["_law_shares_here", "_law_chosen", "_law_off"] (spShows K) := ok_shows DLawShows DLawIsOff b
  refine D.F.ok scLawFewest (fun vs H Q E h => ?_) (fun cdv A outer s H vs Q E hr h => ?_)
  · obtain ⟨l, c, B, t, qs, x, y, rfl, _⟩ := h
    rfl
  obtain ⟨l, c, B, t, qs, x, y, rfl, hl, sh, ne, few, hc, oc, k⟩ := h
  have ll : (refsOf qs).length = qs.length := List.length_map _
  obtain ⟨n, hn⟩ : ∃ n, qs.length = n + 1 := by
    cases qs with
    | nil => exact absurd rfl ne
    | cons q r => exact ⟨r.length, rfl⟩
  have irr := offB_irr sh.b1 oc
  have e2 : ((((1 : Int) * 2 ^ ((((refsOf qs).length : Nat) : Int)).toNat)).toNat : Nat) = 2 ^ (n + 1) := by
    rw [ll, hn, Int.one_mul, Int.toNat_natCast]
    exact Int.toNat_pow_of_nonneg (by decide) _
  have p2 : (2 : Int) ^ ((((refsOf qs).length : Nat) : Int)).toNat ≤ 2 ^ 8 := by
    rw [ll, Int.toNat_natCast]
    exact_mod_cast Nat.pow_le_pow_right (show 0 < 2 by decide) few
  have p3 : (0 : Int) < 2 ^ ((((refsOf qs).length : Nat) : Int)).toNat := Int.pow_pos (by decide)
  refine ⟨_, (pss_cons (ps_set (i := 2) scLawFewest.nd rfl (.inl rfl) (pe_callB call_len_seq (by rfl) b.len PySem.boot_len (pa_cons (pv 0) pa_nil))) (pss_cons (ps_for PassesOwn.never rfl (pi_range1 (by rfl) b.range (pa_cons (pe_op op_shl pe_int (pe_callB call_len_seq (by rfl) b.len PySem.boot_len (pa_cons (pv 0) pa_nil))) pa_nil)) (pg_name (i := 3) scLawFewest.nd rfl (.inr rfl)) (pss_cons (ps_setLc (i := 4) (own := [("_law_at", 5)]) (g := (gName 5)) rfl scLawFewest.nd rfl rfl (sw_true rfl rfl rfl (by decide +kernel)) (pi_range1 (by rfl) b.range (pa_cons (pe_callB call_len_seq (by rfl) b.len PySem.boot_len (pa_cons (pv 0) pa_nil)) pa_nil)) (blkOk_by (own := [("_law_at", 5)]) (N := ["_law_shares_here", "_law_off", "_law_best", "_law_lot", "_law_chosen", "_law_at"]) (sc := defScope sLawFewest) (by decide +kernel)) (fun _ _ _ _ _ => (pg_name (i := 5) scLawFewest.nd rfl (.inl rfl))) (fun _ _ _ _ _ => (pts_one (pt_cmpR op_eq (pe_op op_and (pe_op op_shr (pv 3) (pv 5)) pe_int) pe_int (nomark _)))) (fun _ _ _ _ _ => (pv 5))) (pss_one (ps_if (PW.pt (pw_and (pt_cmpR op_lt (pe_callB call_len_seq (by rfl) b.len PySem.boot_len (pa_cons (pv 4) pa_nil)) (pv 2) (nomark _)) (pw_and1 (pt_val (pe_call GLawShows (hr.mono (by decide)) (by rfl) DLawShows.m DLawShows.kp DLawShows.b .nil pass0 (pa_cons (pv 0) (pa_cons (pv 4) (pa_cons (pv 1) pa_nil)))))))) (pss_one (ps_set (i := 2) scLawFewest.nd rfl (.inl rfl) (pe_callB call_len_seq (by rfl) b.len PySem.boot_len (pa_cons (pv 4) pa_nil)))) pss_nil)))) (pss_one (ps_ret (pv 2))))), ?_⟩
  refine ⟨_, rfl, l, _, rfl, .inl hl, _, rfl, l, _, rfl, .inl hl, 1, _, rfl, rfl, ⟨by omega, by omega, by decide⟩, _, rfl, ?_, ?_, for_range (lo := 0) (n := ((1 : Int) * 2 ^ ((((refsOf qs).length : Nat) : Int)).toNat).toNat)
    (fun i σ H2 => ∃ (best : Nat) (v3 v4 v5 : Option V), σ = [some (.ref l), some (.ref c), some (.int (best : Nat)), v3, v4, v5] ∧ Sm H H2 ∧ (gr t (offB B x y) n).length ≤ best ∧ best ≤ n + 1 ∧ ∀ j, j < i → shB t (offB B x y) (lotL j (n + 1)) (n + 1) = true → best ≤ (lotL j (n + 1)).length) ?_ ?_ ?_⟩
  · have e : (1 : Int) * 2 ^ ((((refsOf qs).length : Nat) : Int)).toNat = 2 ^ ((((refsOf qs).length : Nat) : Int)).toNat := Int.one_mul _
    rw [e]
    omega
  · have e : (1 : Int) * 2 ^ ((((refsOf qs).length : Nat) : Int)).toNat = 2 ^ ((((refsOf qs).length : Nat) : Int)).toNat := Int.one_mul _
    rw [e]
    omega
  · refine ⟨n + 1, none, none, none, ?_, Sm.refl _, gr_len t _ n, Nat.le_refl _, fun j h => by omega⟩
    rw [ll, hn]
    rfl
  · rintro i σ H2 hi ⟨best, v3, v4, v5, rfl, s2, bg, bn, hb⟩
    have tl : ((((refsOf qs).length : Nat) : Int)).toNat = n + 1 := by rw [ll, hn]; rfl
    refine ⟨_, rfl, l, _, rfl, .inl (s2.seqL hl), _, rfl, by omega, by omega, fun p np => lc_range (lo := 0) (n := ((((refsOf qs).length : Nat) : Int)).toNat) (fun j H3 => Sm H2 H3 ∧ H3 p = some (.lst (nats ((List.range j).filter (selB i))))) ⟨Sm.new np, upd_same⟩ ?_ ?_⟩
    · rintro j H3 hj ⟨s3, hp⟩
      refine ⟨rfl, _, rfl, _, rfl, _, _, rfl, rfl, by omega, _, _, rfl, rfl, rfl, _, rfl, ?_⟩
      rw [sel_bit]
      have st : (List.range (j + 1)).filter (selB i) = (List.range j).filter (selB i) ++ if selB i j = true then [j] else [] := by
        rw [List.range_succ, List.filter_append, List.filter_cons, List.filter_nil]
      cases e : selB i j with
      | true =>
        rw [e, if_pos rfl] at st
        refine iteT ⟨_, rfl, _, hp, ?_, s3.put np, ?_⟩
        · unfold nats
          rw [List.length_map]
          have q := List.length_filter_le (selB i) (List.range j)
          rw [List.length_range] at q
          exact Nat.lt_of_le_of_lt (show _ ≤ 1000 by omega) (by decide)
        · rw [upd_same, st, Int.zero_add]
          unfold nats
          rw [List.map_append]
          rfl
      | false =>
        rw [e, if_neg (by decide), List.append_nil] at st
        exact iteF ⟨s3, by rw [st]; exact hp⟩
    · rintro H3 ⟨s3, hp⟩
      rw [tl] at hp
      have hp : H3 p = some (.lst (nats (lotL i (n + 1)))) := hp
      have s23 := s2.trans s3
      have nl : (nats (lotL i (n + 1))).length = (lotL i (n + 1)).length := List.length_map _
      have keep : ¬ (shB t (offB B x y) (lotL i (n + 1)) (n + 1) = true ∧ (lotL i (n + 1)).length < best) → ∀ j, j < i + 1 → shB t (offB B x y) (lotL j (n + 1)) (n + 1) = true → best ≤ (lotL j (n + 1)).length := fun no j hj hs => by
        by_cases z : j = i
        · subst z
          exact Nat.le_of_not_lt fun lt => no ⟨hs, lt⟩
        · exact hb j (by omega) hs
      refine ⟨_, rfl, p, _, rfl, .inl (SqL.of hp), _, rfl, _, _, rfl, rfl, _, rfl, ?_⟩
      by_cases c1 : (((nats (lotL i (n + 1))).length : Nat) : Int) < (best : Nat)
      · rw [decide_eq_true c1]
        refine iteT ⟨_, rfl, _, rfl, _, rfl, l, p, c, B, t, qs, lotL i (n + 1), x, y, rfl, s23.seqL hl, sh.sm s23, by omega, hp, s23.tup hc, oc, fun H4 s4 => ⟨_, rfl, ?_⟩⟩
        rw [hn]
        cases e : shB t (offB B x y) (lotL i (n + 1)) (n + 1) with
        | true =>
          refine iteT ⟨_, rfl, p, _, rfl, .inl (SqL.of (s4.lst hp)), (lotL i (n + 1)).length, some (.int (0 + (i : Int))), some (.ref p), v5, ?_, s23.trans s4, ?_, by omega, fun j hj hs => ?_⟩
          · rw [nl]
            rfl
          · exact gr_least irr (offB_mon oc) sh.up e
          · by_cases z : j = i
            · rw [z]; exact Nat.le_refl _
            · have := hb j (by omega) hs
              omega
        | false => exact iteF ⟨best, _, _, _, rfl, s23.trans s4, bg, bn, keep fun z => by rw [e] at z; cases z.1⟩
      · rw [decide_eq_false c1]
        exact iteF ⟨best, _, _, _, rfl, s23, bg, bn, keep fun z => c1 (by omega)⟩
  · rintro σ H2 ⟨best, v3, v4, v5, rfl, s2, bg, bn, hb⟩
    obtain ⟨lot, h1, h2⟩ := gr_lot t (offB B x y) n
    have q := hb lot (by rw [e2]; exact h1) (by rw [h2]; exact gr_sh irr n)
    rw [h2] at q
    have e : best = (gr t (offB B x y) n).length := by omega
    have r := k H2 s2
    rw [hn, Nat.add_sub_cancel] at r
    rw [e]
    exact ⟨_, rfl, r⟩
end
end Hf
set_option Elab.async false
set_option maxRecDepth 100000
set_option maxHeartbeats 4000000
namespace Hf
open PySem L2 PySem.Spec PyProof.Rows
theorem ints_eqv : ∀ ns : List Int, PyData.eqvAll (ns.map PyData.int) (ns.map PyData.int) = true
  | [] => rfl
  | n :: r => by
    show ((n == n) && PyData.eqvAll (r.map PyData.int) (r.map PyData.int)) = true
    rw [ints_eqv r]
    simp
def qD (q : Addr × Int × Int) : PyData := .tuple [.int q.2.1, .int q.2.2]
theorem qs_eqv : ∀ qs : List (Addr × Int × Int), PyData.eqvAll (qs.map qD) (qs.map qD) = true
  | [] => rfl
  | q :: r => by
    show (((q.2.1 == q.2.1) && ((q.2.2 == q.2.2) && true)) && PyData.eqvAll (r.map qD) (r.map qD)) = true
    rw [qs_eqv r]
    simp
theorem qs_lay : ∀ qs : List (Addr × Int × Int), PyData.canLayAll0 (qs.map qD) = true
  | [] => rfl
  | _ :: r => by show ((true && (true && true)) && PyData.canLayAll0 (r.map qD)) = true; rw [qs_lay r]; rfl
theorem qs_dep : ∀ qs : List (Addr × Int × Int), PyData.depthAll (qs.map qD) ≤ 1
  | [] => Nat.zero_le _
  | _ :: r => by
    show max (max 0 (max 0 0) + 1) (PyData.depthAll (r.map qD)) ≤ 1
    have := qs_dep r
    omega
theorem qs_shaped (qs : List (Addr × Int × Int)) : SeqAt.shaped (.list (qs.map qD)) = true := by
  unfold SeqAt.shaped
  rw [show (PyData.list (qs.map qD)).canLay0 = PyData.canLayAll0 (qs.map qD) from rfl, qs_lay, show (PyData.list (qs.map qD)).depth = PyData.depthAll (qs.map qD) + 1 from rfl, Bool.true_and]
  have := qs_dep qs
  exact decide_eq_true (by omega)
theorem qs_dp {K : PySem.W.Frag} {H : Hp} : ∀ {qs : List (Addr × Int × Int)}, (∀ (i : Nat) (q : Addr × Int × Int), qs[i]? = some q → H q.1 = some (.tup [.int q.2.1, .int q.2.2])) → DpAll K H (refsOf qs) (qs.map qD)
  | [], _ => .nil
  | q :: r, h => .cons (.tup (SqT.of (h 0 q rfl)) (.cons (.int _) (.cons (.int _) .nil))) (qs_dp fun i z e => h (i + 1) z (by simpa using e))
theorem inc_eq : ∀ {xs ys : List Int}, xs.Pairwise (· < ·) → ys.Pairwise (· < ·) → (∀ k, k ∈ xs ↔ k ∈ ys) → xs = ys
  | [], [], _, _, _ => rfl
  | [], y :: ys, _, _, h => absurd ((h y).mpr List.mem_cons_self) (by simp)
  | x :: xs, [], _, _, h => absurd ((h x).mp List.mem_cons_self) (by simp)
  | x :: xs, y :: ys, hx, hy, h => by
    obtain ⟨x1, x2⟩ := List.pairwise_cons.mp hx
    obtain ⟨y1, y2⟩ := List.pairwise_cons.mp hy
    have e : x = y := by
      have a := (h x).mp List.mem_cons_self
      have b := (h y).mpr List.mem_cons_self
      rcases List.mem_cons.mp a with a | a
      · exact a
      · rcases List.mem_cons.mp b with b | b
        · exact b.symm
        · have := y1 x a
          have := x1 y b
          omega
    subst e
    rw [inc_eq x2 y2 fun k => ?_]
    constructor
    · intro hk
      have := x1 k hk
      rcases List.mem_cons.mp ((h k).mp (List.mem_cons_of_mem _ hk)) with z | z
      · omega
      · exact z
    · intro hk
      have := y1 k hk
      rcases List.mem_cons.mp ((h k).mpr (List.mem_cons_of_mem _ hk)) with z | z
      · omega
      · exact z
theorem lt_of_le_nd : ∀ {xs : List Int}, xs.Pairwise (· ≤ ·) → xs.Nodup → xs.Pairwise (· < ·)
  | [], _, _ => .nil
  | x :: xs, h, n => by
    obtain ⟨h1, h2⟩ := List.pairwise_cons.mp h
    obtain ⟨n1, n2⟩ := List.nodup_cons.mp n
    refine List.pairwise_cons.mpr ⟨fun y hy => ?_, lt_of_le_nd h2 n2⟩
    have := h1 y hy
    have : x ≠ y := fun e => n1 (by rw [e]; exact hy)
    omega
def natI (cs : List Nat) : List Int := cs.map fun n => ((n : Nat) : Int)
theorem nats_ints (cs : List Nat) : nats cs = (natI cs).map V.int := by
  unfold nats natI
  rw [List.map_map]
  rfl
theorem natI_up {cs : List Nat} (h : cs.Pairwise (· < ·)) : (natI cs).Pairwise (· < ·) := by
  unfold natI
  rw [List.pairwise_map]
  exact h.imp fun a => by omega
theorem cut1 {v : V} {r : List V} : cutV (v :: r) none (some 1) = [v] := by
  unfold cutV
  rw [HT.sIx_none, show (some (1 : Int)) = some ((1 : Nat) : Int) from rfl, HT.sIx_nat]
  simp
theorem bls_any : ∀ n : Nat, (List.replicate n false).any id = false
  | 0 => rfl
  | n + 1 => by rw [List.replicate_succ, List.any_cons, bls_any n]; rfl
section
variable {P : Program} {w : World} {K : PySem.W.Frag} {mg : Str → Option Value} {base : Heap}
theorem ok_right {f f0 f1 f2 f3 f4 f5 f6 f7 f8 f9 cW T : Addr} {fd fd0 fd1 fd2 fd3 fd4 fd5 fd6 fd7 fd8 fd9 : FuncData} (D : Gf K mg "_law_right" sLawRight ["_law_shares_here", "_law_off"] f fd) (DFew : Gf K mg "few" sFew ["shares", "off"] f7 fd7) (DLawShows : Gf K mg "_law_shows" sLawShows ["_law_shares_here", "_law_chosen", "_law_off"] f8 fd8) (DLawIsOff : Gf K mg "_law_is_off" sLawIsOff ["_law_one", "_law_other", "_law_off"] f9 fd9)
    (DAreRising : Gt K mg base "are_rising" sAreRising ["value"] f4 fd4 T) (DPlus : Gf K mg "plus" sPlus ["one", "other"] f5 fd5) (DShare : Gf K mg "share" sShare ["over", "under"] f6 fd6)
    (DIsWithinWhole : Gf K mg "is_within_whole" sIsWithinWhole ["value"] f0 fd0) (DIsShare : Gf K mg "is_share" sIsShare ["value"] f1 fd1) (DIsLess : Gf K mg "is_less" sIsLess ["one", "other"] f2 fd2)
    (DIsNumber : Gd K mg "is_number" sIsNumber [.non] f3 fd3) (b : Bi mg) (hg : mg "gcd" = some (.builtin "math.gcd")) (hW : mg "WHOLE" = some (.ref cW)) (kW : ∀ H, SqT K H cW [.int 1, .int 1]) :
    FnOk P w K mg base CX0 7 f fd ["_law_shares_here", "_law_off"] (spRight K T) := by
  have GFew : FnOk P w K mg base CX0 6 f7 fd7 ["shares", "off"] (spFew K T) := ok_few DFew DAreRising DPlus DShare DIsWithinWhole DIsShare DIsLess DIsNumber b hg hW kW
  have GLawShows : FnOk P w K mg base CX0 2 f8 fd8 ["_law_shares_here", "_law_chosen", "_law_off"] (spShows K) := ok_shows DLawShows DLawIsOff b
  have GLawIsOff : FnOk P w K mg base CX0 1 f9 fd9 ["_law_one", "_law_other", "_law_off"] spIsOff := ok_isOff DLawIsOff
  refine D.F.ok scLawRight (fun vs H Q E h => ?_) (fun cdv A outer s H vs Q E hr h => ?_)
  · obtain ⟨l, c, B, t, qs, x, y, rfl, _⟩ := h
    rfl
  obtain ⟨l, c, B, t, qs, x, y, rfl, hl, sh, ne, few, hc, oc, tab, k⟩ := h
  have ll : (refsOf qs).length = qs.length := List.length_map _
  obtain ⟨n, hn⟩ : ∃ n, qs.length = n + 1 := by
    cases qs with
    | nil => exact absurd rfl ne
    | cons q r => exact ⟨r.length, rfl⟩
  have irr := offB_irr sh.b1 oc
  have G := gr_ok (t := t) (o := offB B x y) irr n
  refine ⟨_, (pss_cons (ps_set (i := 2) scLawRight.nd rfl (.inl rfl) (pe_callTy call_list_of (by rfl) b.list b_list (pa_cons (pv 0) pa_nil))) (pss_cons (ps_set (i := 3) scLawRight.nd rfl (.inl rfl) (pe_call GFew (hr.mono (by decide)) (by rfl) DFew.m DFew.kp DFew.b .nil pass0 (pa_cons (pv 2) (pa_cons (pv 1) pa_nil)))) (pss_cons (ps_if (PW.pt (pw_or (pt_cmpR (op_neD (hu64 hr)) (pv 2) (pv 0) (nomark _)) (pw_or (pt_not (pt_val (pe_callB call_isi (by rfl) b.isinstance b_isi (pa_cons (pv 3) (pa_cons (pe_bltn (v := .ty "list") (by rfl) b.list b_list rfl) pa_nil))))) (pw_or (pt_cmpR (op_neD (hu64 hr)) (pe_slice sl_list (pv 3) po_none (po_some pe_int)) (pe_lst (pa_cons pe_int pa_nil)) (nomark _)) (pw_or1 (pt_cmpR (op_neD (hu64 hr)) (pv 3) (pe_sortSet rfl (by rfl) b.sorted (by rfl) b.set (pv 3)) (nomark _))))))) (pss_one (ps_ret pe_bl)) pss_nil) (pss_cons (ps_if (PW.pt (pw_or (pt_val (pe_callB (cr_any rfl) (by rfl) b.any boot_any (pa_cons (pe_lc (own := [("_law_at", 5)]) (g := (gName 5)) rfl scLawRight.nd (pi_list (pv 3)) (blkOk_by (own := [("_law_at", 5)]) (N := ["_law_shares_here", "_law_off", "_law_handed", "_law_got", "_law_k", "_law_at"]) (sc := defScope sLawRight) (by decide +kernel)) (fun _ _ _ _ _ => (pg_name (i := 5) scLawRight.nd rfl (.inl rfl))) (fun _ _ _ _ _ => pts_nil) (fun _ _ _ _ _ => (pe_callB (r := rIsi K) call_isi (by rfl) b.isinstance b_isi (pa_cons (pv 5) (pa_cons (pe_bltn (v := .ty "bool") (by rfl) b.bool b_bool rfl) pa_nil))))) pa_nil))) (pw_or1 (pt_not (pt_val (pe_call GLawShows (hr.mono (by decide)) (by rfl) DLawShows.m DLawShows.kp DLawShows.b .nil pass0 (pa_cons (pv 0) (pa_cons (pv 3) (pa_cons (pv 1) pa_nil))))))))) (pss_one (ps_ret pe_bl)) pss_nil) (pss_cons (ps_for PassesOwn.never rfl (pi_range1 (by rfl) b.range (pa_cons (pe_op op_sub (pe_callB call_len_seq (by rfl) b.len PySem.boot_len (pa_cons (pv 3) pa_nil)) pe_int) pa_nil)) (pg_name (i := 4) scLawRight.nd rfl (.inl rfl)) (pss_cons (ps_if (pt_not (pt_val (pe_call GLawIsOff (hr.mono (by decide)) (by rfl) DLawIsOff.m DLawIsOff.kp DLawIsOff.b .nil pass0 (pa_cons (pe_ix ix_list (pv 0) (pe_ix ix_list (pv 3) (pe_op op_add (pv 4) pe_int) (fun _ _ => rfl)) (fun _ _ => rfl)) (pa_cons (pe_ix ix_list (pv 0) (pe_ix ix_list (pv 3) (pv 4) (fun _ _ => rfl)) (fun _ _ => rfl)) (pa_cons (pv 1) pa_nil)))))) (pss_one (ps_ret pe_bl)) pss_nil) (pss_one (ps_if (pt_val (pe_call GLawIsOff (hr.mono (by decide)) (by rfl) DLawIsOff.m DLawIsOff.kp DLawIsOff.b .nil pass0 (pa_cons (pe_ix ix_list (pv 0) (pe_op op_sub (pe_ix ix_list (pv 3) (pe_op op_add (pv 4) pe_int) (fun _ _ => rfl)) pe_int) (fun _ _ => rfl)) (pa_cons (pe_ix ix_list (pv 0) (pe_ix ix_list (pv 3) (pv 4) (fun _ _ => rfl)) (fun _ _ => rfl)) (pa_cons (pv 1) pa_nil))))) (pss_one (ps_ret pe_bl)) pss_nil)))) (pss_one (ps_ret pe_bl))))))), ?_⟩
  refine ⟨_, rfl, l, _, rfl, .inl (SqL.of hl), fun hd nhd => ?_⟩
  have s1 := Sm.new (o := .lst (refsOf qs)) nhd
  refine ⟨_, rfl, _, rfl, hd, c, B, t, qs, x, y, rfl, upd_same, sh.sm s1, ne, by omega, s1.tup hc, oc, s1.tabG tab, fun H2 g s2 ng hg2 => ?_⟩
  rw [hn, Nat.add_sub_cancel] at hg2
  have hg2 : H2 g = some (.lst (nats (gr t (offB B x y) n))) := hg2
  have s12 := s1.trans s2
  have hhd := s2.lst (a := hd) upd_same
  have dA : ∀ {H' : Hp}, Sm H H' → DpAll K H' (refsOf qs) (qs.map qD) := fun s => qs_dp fun i q e => ((sh.sm s).at_ i q e).1
  refine ⟨_, rfl, _, rfl, .list (qs.map qD), .list (qs.map qD), .lst (SqL.of hhd) (dA s12), .lst (SqL.of (s12.lst hl)) (dA s12), qs_shaped qs, qs_shaped qs, _, rfl, ?_⟩
  rw [show PyData.eqv (.list (qs.map qD)) (.list (qs.map qD)) = true from qs_eqv qs]
  refine iteF ⟨_, rfl, _, _, _, _, true, rfl, .ty _, .base (.lst hg2), kit_list_list, true, rfl, iteF ?_⟩
  obtain ⟨rs, hrs⟩ : ∃ rs, gr t (offB B x y) n = 0 :: rs := by
    have h := G.hd
    cases e : gr t (offB B x y) n with
    | nil => rw [e] at h; cases h
    | cons a r => rw [e] at h; cases h; exact ⟨r, rfl⟩
  have gl := gr_len t (offB B x y) n
  have ec : cutV (nats (gr t (offB B x y) n)) none (some 1) = [V.int 0] := by
    rw [hrs]
    exact cut1
  -- got[:1] != [0]
  refine ⟨_, rfl, 1, rfl, g, _, rfl, SqL.of hg2, fun p np => ⟨by show 1 ≤ sizeLine; decide, fun p2 np2 => ?_⟩⟩
  rw [ec] at np2 ⊢
  have nep : p ≠ p2 := fun z => by rw [← z, upd_same] at np2; cases np2
  refine ⟨.list [.int 0], .list [.int 0], .lst (SqL.of (by rw [upd_ne nep]; exact upd_same)) (.cons (.int _) .nil), .lst (SqL.of upd_same) (.cons (.int _) .nil), by decide +kernel, by decide +kernel, _, rfl, ?_⟩
  rw [show PyData.eqv (.list [.int 0]) (.list [.int 0]) = true by decide +kernel]
  have s3 := (Sm.new (o := .lst [V.int 0]) np).trans (Sm.new (o := .lst [V.int 0]) np2)
  have hg3 := s3.lst hg2
  have s13 := s12.trans s3
  generalize upd (upd H2 p (.lst [V.int 0])) p2 (.lst [V.int 0]) = H3 at s13 hg3 ⊢
  -- got != sorted(set(got))
  have nI : (nats (gr t (offB B x y) n)).length = (gr t (offB B x y) n).length := List.length_map _
  refine iteF ⟨_, rfl, _, rfl, g, natI (gr t (offB B x y) n), rfl, SqL.of (by rw [← nats_ints]; exact hg3), by unfold natI; rw [List.length_map]; omega, fun ms q hs hnd hmem nq => ?_⟩
  obtain rfl : ms = natI (gr t (offB B x y) n) := inc_eq (lt_of_le_nd hs hnd) (natI_up G.up) hmem
  have s4 := Sm.new (o := .lst ((natI (gr t (offB B x y) n)).map V.int)) nq
  have hg4 := s4.lst hg3
  refine ⟨_, _, .lst (SqL.of hg4) (by rw [nats_ints]; exact intsDp (natI (gr t (offB B x y) n))), .lst (SqL.of upd_same) (intsDp (natI (gr t (offB B x y) n))), ints_shaped _, ints_shaped _, _, rfl, ?_⟩
  rw [show PyData.eqv (.list ((natI (gr t (offB B x y) n)).map PyData.int)) (.list ((natI (gr t (offB B x y) n)).map PyData.int)) = true from ints_eqv _]
  have s14 := s13.trans s4
  generalize upd H3 q (.lst ((natI (gr t (offB B x y) n)).map V.int)) = H4 at s14 hg4 ⊢
  -- any([isinstance(..)])
  refine iteF ⟨_, rfl, g, rfl, ⟨_, SqL.of hg4⟩, fun D nD => lc_list (K := K) (a := g) (xs := nats (gr t (offB B x y) n)) (fun i H5 => Sm H4 H5 ∧ H5 D = some (.lst ((List.replicate i false).map V.bl))) ⟨Sm.new nD, upd_same⟩ (fun i H5 _ hh => hh.1.seqL (SqL.of hg4)) ?_ ?_⟩
  · rintro i v H5 hv ⟨s5, hD⟩
    obtain ⟨m, hm, rfl⟩ := nats_get hv
    have il := (List.getElem?_eq_some_iff.mp hm).1
    refine ⟨rfl, ?_⟩
    unfold tYes
    refine iteT ⟨_, rfl, _, _, _, _, false, rfl, .ty _, .base (.int _), kit_int_bool, _, hD, ?_, s5.put nD, ?_⟩
    · rw [List.length_map, List.length_replicate]
      exact Nat.lt_of_le_of_lt (show i ≤ 1000 by omega) (by decide)
    · rw [upd_same, List.replicate_succ', List.map_append]
      rfl
  rintro H5 ⟨s5, hD⟩
  have s15 := s14.trans s5
  have hg5 := s5.lst hg4
  refine ⟨D, List.replicate (nats (gr t (offB B x y) n)).length false, rfl, SqL.of hD, ?_⟩
  rw [bls_any]
  refine ⟨_, rfl, iteF ⟨_, rfl, _, rfl, _, rfl, l, g, c, B, t, qs, gr t (offB B x y) n, x, y, rfl, SqL.of (s15.lst hl), sh.sm s15, by omega, hg5, s15.tup hc, oc, fun H6 s6 => ?_⟩⟩
  rw [hn, gr_sh irr n]
  refine ⟨true, rfl, iteF ?_⟩
  have s16 := s15.trans s6
  have hg6 := s6.lst hg5
  -- the turns
  refine ⟨_, rfl, g, _, rfl, .inl (SqL.of hg6), _, _, rfl, rfl, _, rfl, ?_, ?_, for_range (lo := 0) (n := (((((nats (gr t (offB B x y) n)).length : Nat) : Int) - 1)).toNat)
    (fun i σ H7 => ∃ v4 v5 : Option V, σ = [some (.ref l), some (.ref c), some (.ref hd), some (.ref g), v4, v5] ∧ Sm H6 H7) ⟨none, none, rfl, Sm.refl _⟩ ?_ ?_⟩
  · omega
  · omega
  · rintro i σ H7 hi ⟨v4, v5, rfl, s7⟩
    have i1 : i + 1 < (gr t (offB B x y) n).length := by omega
    have ea : (gr t (offB B x y) n)[i]? = some ((gr t (offB B x y) n)[i]'(by omega)) := List.getElem?_eq_getElem (by omega)
    have eb : (gr t (offB B x y) n)[i + 1]? = some ((gr t (offB B x y) n)[i + 1]'i1) := List.getElem?_eq_getElem i1
    generalize (gr t (offB B x y) n)[i]'(by omega) = a at ea
    generalize (gr t (offB B x y) n)[i + 1]'i1 = d at eb
    obtain ⟨q1, q2, q3⟩ := G.near i a d ea eb
    have dn := G.le d (List.mem_of_getElem? eb)
    have s17 := s16.trans s7
    have hl7 := s17.lst hl
    have hg7 := s7.lst hg6
    have sh7 := sh.sm s17
    have hc7 := s17.tup hc
    have ai : ∀ (j : Nat) (hj : j < qs.length), atI (refsOf qs) ((j : Nat) : Int) = some (.ref (qs[j]'hj).1) := fun j hj => atI_nat (by unfold refsOf; rw [List.getElem?_map, List.getElem?_eq_getElem hj]; rfl)
    have aa : atI (nats (gr t (offB B x y) n)) (0 + (i : Int)) = some (.int (a : Nat)) := by
      rw [Int.zero_add]
      exact atI_nat (by unfold nats; rw [List.getElem?_map, ea]; rfl)
    have ad : atI (nats (gr t (offB B x y) n)) (0 + (i : Int) + 1) = some (.int (d : Nat)) := by
      rw [show (0 + (i : Int) + 1) = ((i + 1 : Nat) : Int) by omega]
      exact atI_nat (by unfold nats; rw [List.getElem?_map, eb]; rfl)
    have dq : d < qs.length := by omega
    have aq : a < qs.length := by omega
    have d1q : d - 1 < qs.length := by omega
    have a1 : atI (refsOf qs) ((d : Nat) - 1 : Int) = some (.ref (qs[d - 1]'d1q).1) := by
      rw [show ((d : Nat) - 1 : Int) = ((d - 1 : Nat) : Int) by omega]
      exact ai (d - 1) d1q
    obtain ⟨g1, g2, g3, g4⟩ := sh7.at_ d _ (List.getElem?_eq_getElem dq)
    obtain ⟨h1, h2, h3, h4⟩ := sh7.at_ a _ (List.getElem?_eq_getElem aq)
    obtain ⟨k1, k2, k3, k4⟩ := sh7.at_ (d - 1) _ (List.getElem?_eq_getElem d1q)
    refine ⟨_, rfl, _, rfl, _, rfl, _, _, rfl, rfl, g, _, _, _, rfl, rfl, SqL.of hg7, ad, l, _, _, _, rfl, rfl, SqL.of hl7, ai d dq, _, rfl, _, rfl, _, rfl, g, _, _, _, rfl, rfl, SqL.of hg7, aa, l, _, _, _, rfl, rfl, SqL.of hl7, ai a aq, _, rfl, _, _, _, _, _, _, _, _, _, rfl, g1, h1, hc7, g2, h2, oc, _, rfl, ?_⟩
    rw [show decide ((qs[d].2.1 * qs[a].2.2 - qs[a].2.1 * qs[d].2.2) * y > x * qs[d].2.2 * qs[a].2.2) = offB B x y (t d) (t a) from decide_eq_decide.mpr (off_l sh.b1 h2.y1 g2.y1 h4 g4), q1]
    refine iteF ⟨_, rfl, _, rfl, _, rfl, _, _, rfl, rfl, g, _, _, _, rfl, rfl, SqL.of hg7, ad, _, _, rfl, rfl, l, _, _, _, rfl, rfl, SqL.of hl7, a1, _, rfl, _, rfl, _, rfl, g, _, _, _, rfl, rfl, SqL.of hg7, aa, l, _, _, _, rfl, rfl, SqL.of hl7, ai a aq, _, rfl, _, _, _, _, _, _, _, _, _, rfl, k1, h1, hc7, k2, h2, oc, _, rfl, ?_⟩
    rw [show decide ((qs[d - 1].2.1 * qs[a].2.2 - qs[a].2.1 * qs[d - 1].2.2) * y > x * qs[d - 1].2.2 * qs[a].2.2) = offB B x y (t (d - 1)) (t a) from decide_eq_decide.mpr (off_l sh.b1 h2.y1 k2.y1 h4 k4), q2]
    exact iteF ⟨_, _, rfl, s7⟩
  · rintro σ H7 ⟨v4, v5, rfl, s7⟩
    exact k H7 (s16.trans s7)
end
end Hf
set_option Elab.async false
set_option maxRecDepth 100000
set_option maxHeartbeats 8000000
namespace Hf
open PySem L2 PySem.Spec PyProof.Rows
theorem joinP {X G : Prop} (f : X → G) (x : X) : G := f x
theorem gr_zero {t : Nat → Int} {o : Int → Int → Bool} (h : ∀ i, o (t i) (t 0) = false) : ∀ i, gr t o i = [0]
  | 0 => rfl
  | i + 1 => by
    show (if o (t (i + 1)) (t ((gr t o i).getLast?.getD 0)) = true then _ else gr t o i) = _
    rw [gr_zero h i]
    show (if o (t (i + 1)) (t 0) = true then _ else _) = _
    rw [h (i + 1), if_neg (by decide)]
theorem ShL.take {H : Hp} {B : Int} {t : Nat → Int} {qs : List (Addr × Int × Int)} (h : ShL H B t qs) (n : Nat) : ShL H B t (qs.take n) :=
  ⟨fun i q e => h.at_ i q (by
    rw [List.getElem?_take] at e
    split at e
    · exact e
    · cases e), h.b1, h.up⟩
theorem cut8 (qs : List (Addr × Int × Int)) : cutV (refsOf qs) none (some 8) = refsOf (qs.take 8) := by
  unfold cutV refsOf
  rw [HT.sIx_none, show (some (8 : Int)) = some ((8 : Nat) : Int) from rfl, HT.sIx_nat, List.drop_zero, Nat.sub_zero, List.map_take]
  rw [List.length_map]
  rcases Nat.le_total 8 qs.length with h | h
  · rw [Nat.min_eq_left h]
  · rw [Nat.min_eq_right h, List.take_of_length_le (by rw [List.length_map]; exact Nat.le_refl _), List.take_of_length_le (by rw [List.length_map]; exact h)]
def spLaw (K : PySem.W.Frag) (T : Addr) : Sp := fun vs H Q _ => ∃ (a : Addr) (ns : List Int), vs = [.ref a] ∧ SqL K H a (ns.map V.int) ∧ ns.length ≤ 63 ∧ Tab H T ∧ ∀ H', Q (.bl true) H'
section
variable {P : Program} {w : World} {K : PySem.W.Frag} {mg : Str → Option Value} {base : Heap}
theorem ok_law {f f0 f1 f2 f3 f4 f5 f6 f7 f8 f9 g1 g2 g3 g4 g5 g6 cW T : Addr} {fd fd0 fd1 fd2 fd3 fd4 fd5 fd6 fd7 fd8 fd9 gd1 gd2 gd3 gd4 gd5 gd6 : FuncData} (D : Fun K "law" "law" sLaw f fd) (DFew : Gf K mg "few" sFew ["shares", "off"] f7 fd7) (DLawShows : Gf K mg "_law_shows" sLawShows ["_law_shares_here", "_law_chosen", "_law_off"] f8 fd8) (DLawIsOff : Gf K mg "_law_is_off" sLawIsOff ["_law_one", "_law_other", "_law_off"] f9 fd9)
    (DAreRising : Gt K mg base "are_rising" sAreRising ["value"] f4 fd4 T) (DPlus : Gf K mg "plus" sPlus ["one", "other"] f5 fd5) (DShare : Gf K mg "share" sShare ["over", "under"] f6 fd6)
    (DIsWithinWhole : Gf K mg "is_within_whole" sIsWithinWhole ["value"] f0 fd0) (DIsShare : Gf K mg "is_share" sIsShare ["value"] f1 fd1) (DIsLess : Gf K mg "is_less" sIsLess ["one", "other"] f2 fd2)
    (DIsNumber : Gd K mg "is_number" sIsNumber [.non] f3 fd3) (DLawCellAt : Gf K mg "_law_cell_at" sLawCellAt ["_law_script", "_law_k"] g1 gd1) (DLawNumbers : Gf K mg "_law_numbers" sLawNumbers ["_law_cell", "_law_bounds"] g2 gd2) (DLawShare : Gf K mg "_law_share" sLawShare ["_law_top", "_law_bottom"] g3 gd3)
    (DLawShares : Gf K mg "_law_shares" sLawShares ["_law_script"] g4 gd4) (DLawFewest : Gf K mg "_law_fewest" sLawFewest ["_law_shares_here", "_law_off"] g5 gd5) (DLawRight : Gf K mg "_law_right" sLawRight ["_law_shares_here", "_law_off"] g6 gd6)
    (b : Bi mg) (hg : mg "gcd" = some (.builtin "math.gcd")) (hW : mg "WHOLE" = some (.ref cW)) (kW : ∀ H, SqT K H cW [.int 1, .int 1]) :
    FnOk P w K mg base CX0 9 f fd ["_law_script"] (spLaw K T) := by
  have GFew : FnOk P w K mg base CX0 6 f7 fd7 ["shares", "off"] (spFew K T) := ok_few DFew DAreRising DPlus DShare DIsWithinWhole DIsShare DIsLess DIsNumber b hg hW kW
  have GLawRight : FnOk P w K mg base CX0 7 g6 gd6 ["_law_shares_here", "_law_off"] (spRight K T) := ok_right DLawRight DFew DLawShows DLawIsOff DAreRising DPlus DShare DIsWithinWhole DIsShare DIsLess DIsNumber b hg hW kW
  have GLawFewest : FnOk P w K mg base CX0 3 g5 gd5 ["_law_shares_here", "_law_off"] (spFewest K) := ok_fewest DLawFewest DLawShows DLawIsOff b
  have GLawShares : FnOk P w K mg base CX0 7 g4 gd4 ["_law_script"] (spLawShares K) := ok_lawShares DLawShares DLawShare DLawCellAt b
  have GLawShare : FnOk P w K mg base CX0 1 g3 gd3 ["_law_top", "_law_bottom"] spLawShare := ok_lawShare DLawShare b
  have GLawNumbers : FnOk P w K mg base CX0 1 g2 gd2 ["_law_cell", "_law_bounds"] (spNumbers K) := ok_numbers DLawNumbers
  have GLawCellAt : FnOk P w K mg base CX0 6 g1 gd1 ["_law_script", "_law_k"] (spCell K) := ok_cell DLawCellAt b
  refine D.ok scLaw (fun vs H Q E h => ?_) (fun cdv A outer s H vs Q E hr h => ?_)
  · obtain ⟨a, ns, rfl, _⟩ := h
    rfl
  obtain ⟨a, ns, rfl, hS, h63, tab, k⟩ := h
  refine ⟨_, (pss_cons (ps_set (i := 1) scLaw.nd rfl (.inl rfl) (pe_call GLawShares (hr.mono (by decide)) (by rfl) DLawShares.m DLawShares.kp DLawShares.b .nil pass0 (pa_cons (pv 0) pa_nil))) (pss_cons (ps_for PassesOwn.never rfl (pi_range1 (by rfl) b.range (pa_cons pe_int pa_nil)) (pg_name (i := 2) scLaw.nd rfl (.inl rfl)) (pss_cons (ps_set (i := 3) scLaw.nd rfl (.inl rfl) (pe_call GLawNumbers (hr.mono (by decide)) (by rfl) DLawNumbers.m DLawNumbers.kp DLawNumbers.b .nil pass0 (pa_cons (pe_call GLawCellAt (hr.mono (by decide)) (by rfl) DLawCellAt.m DLawCellAt.kp DLawCellAt.b .nil pass0 (pa_cons (pv 0) (pa_cons (pe_op op_add pe_int (pv 2)) pa_nil))) (pa_cons (pe_lst (pa_cons pe_int (pa_cons pe_int (pa_cons pe_int pa_nil)))) pa_nil)))) (pss_cons (ps_set (i := 4) scLaw.nd rfl (.inl rfl) (pe_call GLawShare (hr.mono (by decide)) (by rfl) DLawShare.m DLawShare.kp DLawShare.b .nil pass0 (pa_cons (pe_ifExp (pt_cmpR op_lt (pe_ix ix_list (pv 3) pe_int (fun _ _ => rfl)) pe_int (nomark _)) (pe_ix ix_list (pv 3) pe_int (fun _ _ => rfl)) pe_int) (pa_cons (pe_op op_add pe_int (pe_ix ix_list (pv 3) pe_int (fun _ _ => rfl))) pa_nil)))) (pss_one (ps_if (PW.pt (pw_or (pt_not (pt_val (pe_call GLawRight (hr.mono (by decide)) (by rfl) DLawRight.m DLawRight.kp DLawRight.b .nil pass0 (pa_cons (pv 1) (pa_cons (pv 4) pa_nil))))) (pw_or1 (pt_cmpR op_ne (pe_callB call_len_seq (by rfl) b.len PySem.boot_len (pa_cons (pe_call GFew (hr.mono (by decide)) (by rfl) DFew.m DFew.kp DFew.b .nil pass0 (pa_cons (pe_slice sl_list (pv 1) po_none (po_some pe_int)) (pa_cons (pv 4) pa_nil))) pa_nil)) (pe_call GLawFewest (hr.mono (by decide)) (by rfl) DLawFewest.m DLawFewest.kp DLawFewest.b .nil pass0 (pa_cons (pe_slice sl_list (pv 1) po_none (po_some pe_int)) (pa_cons (pv 4) pa_nil))) (nomark _))))) (pss_one (ps_ret pe_bl)) pss_nil))))) (pss_cons (ps_setLc (i := 5) (own := [("_law_k", 2)]) (g := (gName 2)) rfl scLaw.nd rfl rfl (sw_true rfl rfl rfl (by decide +kernel)) (pi_range1 (by rfl) b.range (pa_cons pe_int pa_nil)) (blkOk_by (own := [("_law_k", 2)]) (N := ["_law_script", "_law_shares_here", "_law_k", "_law_digits", "_law_off", "_law_long"]) (sc := defScope sLaw) (by decide +kernel)) (fun _ _ _ _ _ => (pg_name (i := 2) scLaw.nd rfl (.inl rfl))) (fun _ _ _ _ _ => pts_nil) (fun _ _ _ _ _ => (pe_call GLawShare (hr.mono (by decide)) (by rfl) DLawShare.m DLawShare.kp DLawShare.b .nil pass0 (pa_cons (pv 2) (pa_cons pe_int pa_nil))))) (pss_cons (ps_if (PW.pt (pw_or (pt_not (pt_val (pe_call GLawRight (hr.mono (by decide)) (by rfl) DLawRight.m DLawRight.kp DLawRight.b .nil pass0 (pa_cons (pv 5) (pa_cons (pe_tup (pa_cons pe_int (pa_cons pe_int pa_nil))) pa_nil))))) (pw_or1 (pt_not (pt_val (pe_call GLawRight (hr.mono (by decide)) (by rfl) DLawRight.m DLawRight.kp DLawRight.b .nil pass0 (pa_cons (pv 5) (pa_cons (pe_call GLawShare (hr.mono (by decide)) (by rfl) DLawShare.m DLawShare.kp DLawShare.b .nil pass0 (pa_cons (pe_op op_add pe_int (pe_op op_mod (pe_call GLawCellAt (hr.mono (by decide)) (by rfl) DLawCellAt.m DLawCellAt.kp DLawCellAt.b .nil pass0 (pa_cons (pv 0) (pa_cons pe_int pa_nil))) pe_int)) (pa_cons pe_int pa_nil))) pa_nil)))))))) (pss_one (ps_ret pe_bl)) pss_nil) (pss_one (ps_ret (pe_and (pe_call GLawRight (hr.mono (by decide)) (by rfl) DLawRight.m DLawRight.kp DLawRight.b .nil pass0 (pa_cons (pv 1) (pa_cons (pe_tup (pa_cons pe_int (pa_cons pe_int pa_nil))) pa_nil))) (pe_and (pe_cmpR (op_eqD (hu64 hr)) (pe_call GFew (hr.mono (by decide)) (by rfl) DFew.m DFew.kp DFew.b .nil pass0 (pa_cons (pv 1) (pa_cons (pe_tup (pa_cons pe_int (pa_cons pe_int pa_nil))) pa_nil))) (pe_lst (pa_cons pe_int pa_nil)) (nomark _)) (pe_one (pe_cmpR (op_eqD (hu64 hr)) (pe_call GFew (hr.mono (by decide)) (by rfl) DFew.m DFew.kp DFew.b .nil pass0 (pa_cons (pv 1) (pa_cons (pe_tup (pa_cons pe_int (pa_cons pe_int pa_nil))) pa_nil))) (pe_lst (pa_cons pe_int pa_nil)) (nomark _))))))))))), ?_⟩
  refine ⟨_, rfl, a, ns, rfl, hS, h63, fun S B t qs H1 s1 nS hS1 sh ne few bt => ?_⟩
  have ll : (refsOf qs).length = qs.length := List.length_map _
  obtain ⟨n, hn⟩ : ∃ n, qs.length = n + 1 := by
    cases qs with
    | nil => exact absurd rfl ne
    | cons q r => exact ⟨r.length, rfl⟩
  have ne8 : qs.take 8 ≠ [] := fun e => by
    have := congrArg List.length e
    rw [List.length_take, hn] at this
    simp at this
  refine ⟨3, rfl, by decide, by decide, for_range (lo := 0) (n := (3 : Int).toNat) (fun i σ H2 => ∃ v2 v3 v4 v5 : Option V, σ = [some (.ref a), some (.ref S), v2, v3, v4, v5] ∧ Sm H1 H2) ⟨_, _, _, _, rfl, Sm.refl _⟩ ?_ ?_⟩
  · rintro i σ H2 hi ⟨v2, v3, v4, v5, rfl, s2⟩
    have s12 := s1.trans s2
    refine ⟨_, rfl, _, rfl, _, _, rfl, rfl, a, _, ns, rfl, s12.seqL hS, h63, by omega, fun c H3 s3 => ⟨by show 3 ≤ sizeLine; decide, fun L nL => ?_⟩⟩
    have s4 := Sm.new (o := .lst [V.int 9, V.int 12, V.int 4]) nL
    refine ⟨c, L, [9, 12, 4], rfl, SqL.of upd_same, by decide, fun x hx => ?_, fun Dg ds H5 s5 nD hD ld hb => ?_⟩
    · simp only [List.mem_cons, List.not_mem_nil, or_false] at hx
      rcases hx with rfl | rfl | rfl <;> exact ⟨by decide, by decide⟩
    obtain ⟨d0, d1, d2, rfl⟩ : ∃ d0 d1 d2, ds = [d0, d1, d2] := by
      match ds, ld with
      | [d0, d1, d2], _ => exact ⟨d0, d1, d2, rfl⟩
    obtain ⟨p00, p01⟩ := hb 0 d0 9 rfl rfl
    obtain ⟨p10, p11⟩ := hb 1 d1 12 rfl rfl
    obtain ⟨p20, p21⟩ := hb 2 d2 4 rfl rfl
    have s25 := s2.trans ((s3.trans s4).trans s5)
    have v0 : atI ([d0, d1, d2].map V.int) 0 = some (.int d0) := atI_nat (j := 0) rfl
    have v1 : atI ([d0, d1, d2].map V.int) 1 = some (.int d1) := atI_nat (j := 1) rfl
    have v2' : atI ([d0, d1, d2].map V.int) 2 = some (.int d2) := atI_nat (j := 2) rfl
    have off : ∀ t0 : Int, 0 ≤ t0 → t0 ≤ 8 → 0 ≤ t0 ∧ t0 ≤ 1000 := fun t0 h1 h2 => ⟨h1, by omega⟩
    refine ⟨_, rfl, Dg, _, _, _, rfl, rfl, SqL.of hD, v2', _, _, rfl, rfl, _, rfl, ?_⟩
    by_cases c3 : d2 < 3
    · rw [decide_eq_true c3]
      refine iteT ⟨_, rfl, Dg, _, _, _, rfl, rfl, SqL.of hD, v0, ?_⟩
      refine ⟨_, rfl, Dg, _, _, _, rfl, rfl, SqL.of hD, v1, _, _, rfl, rfl, d0, 1 + d1, rfl, p00, by omega, by omega, by omega, fun po x y H6 s6 npo hpo oo e xy => ?_⟩
      have s16 := s25.trans s6
      refine ⟨_, rfl, _, rfl, S, po, B, t, qs, x, y, rfl, s16.lst hS1, sh.sm s16, ne, by omega, hpo, oo, (s1.trans s16).tabG tab, fun H7 s7 => ⟨true, rfl, iteF ?_⟩⟩
      have s17 := s16.trans s7
      refine ⟨_, rfl, 8, rfl, S, _, rfl, SqL.of (s17.lst hS1), fun p8 np8 => ?_⟩
      rw [cut8]
      have s8 := Sm.new (o := .lst (refsOf (qs.take 8))) np8
      have l8 : (qs.take 8).length ≤ 8 := by rw [List.length_take]; omega
      have s18 := s17.trans s8
      refine ⟨_, rfl, p8, po, B, t, qs.take 8, x, y, rfl, upd_same, (sh.sm s18).take 8, ne8, by omega, (s7.trans s8).tup hpo, oo, (s1.trans s18).tabG tab, fun H9 G s9 nG hG => ?_⟩
      have s19 := s18.trans s9
      refine ⟨G, _, rfl, .inl (SqL.of hG), _, rfl, 8, rfl, S, _, rfl, SqL.of (s19.lst hS1), fun p9 np9 => ?_⟩
      rw [cut8]
      have s10 := Sm.new (o := .lst (refsOf (qs.take 8))) np9
      have s1a := s19.trans s10
      refine ⟨_, rfl, p9, po, B, t, qs.take 8, x, y, rfl, SqL.of upd_same, (sh.sm s1a).take 8, ne8, l8, ((s7.trans s8).trans (s9.trans s10)).tup hpo, oo, fun Hb sb => ⟨rfl, _, rfl, ?_⟩⟩
      rw [List.length_map, decide_eq_true rfl]
      exact iteF ⟨_, _, _, _, rfl, s1a.trans sb⟩
    · rw [decide_eq_false c3]
      refine iteF ?_
      refine ⟨_, rfl, Dg, _, _, _, rfl, rfl, SqL.of hD, v1, _, _, rfl, rfl, 0, 1 + d1, rfl, by decide, by omega, by omega, by omega, fun po x y H6 s6 npo hpo oo e xy => ?_⟩
      have s16 := s25.trans s6
      refine ⟨_, rfl, _, rfl, S, po, B, t, qs, x, y, rfl, s16.lst hS1, sh.sm s16, ne, by omega, hpo, oo, (s1.trans s16).tabG tab, fun H7 s7 => ⟨true, rfl, iteF ?_⟩⟩
      have s17 := s16.trans s7
      refine ⟨_, rfl, 8, rfl, S, _, rfl, SqL.of (s17.lst hS1), fun p8 np8 => ?_⟩
      rw [cut8]
      have s8 := Sm.new (o := .lst (refsOf (qs.take 8))) np8
      have l8 : (qs.take 8).length ≤ 8 := by rw [List.length_take]; omega
      have s18 := s17.trans s8
      refine ⟨_, rfl, p8, po, B, t, qs.take 8, x, y, rfl, upd_same, (sh.sm s18).take 8, ne8, by omega, (s7.trans s8).tup hpo, oo, (s1.trans s18).tabG tab, fun H9 G s9 nG hG => ?_⟩
      have s19 := s18.trans s9
      refine ⟨G, _, rfl, .inl (SqL.of hG), _, rfl, 8, rfl, S, _, rfl, SqL.of (s19.lst hS1), fun p9 np9 => ?_⟩
      rw [cut8]
      have s10 := Sm.new (o := .lst (refsOf (qs.take 8))) np9
      have s1a := s19.trans s10
      refine ⟨_, rfl, p9, po, B, t, qs.take 8, x, y, rfl, SqL.of upd_same, (sh.sm s1a).take 8, ne8, l8, ((s7.trans s8).trans (s9.trans s10)).tup hpo, oo, fun Hb sb => ⟨rfl, _, rfl, ?_⟩⟩
      rw [List.length_map, decide_eq_true rfl]
      exact iteF ⟨_, _, _, _, rfl, s1a.trans sb⟩
  · rintro σ H2 ⟨v2, v3, v4, v5, rfl, s2⟩
    refine ⟨301, rfl, by decide, by decide, fun L nL => lc_range (lo := 0) (n := (301 : Int).toNat) (fun i H3 => ∃ ls : List (Addr × Int × Int), Sm H2 H3 ∧ H3 L = some (.lst (refsOf ls)) ∧ ls.length = i ∧ ShL H3 300 (fun j => (j : Int)) ls) ⟨[], Sm.new nL, upd_same, rfl, fun i q e => by simp at e, by decide, fun i j h => by omega⟩ ?_ ?_⟩
    · rintro i H3 hi ⟨ls, s3, hL, lL, shl⟩
      refine ⟨rfl, ?_⟩
      unfold tYes
      refine iteT ⟨_, rfl, _, 300, rfl, by omega, by omega, by decide, by decide, fun q x y H4 s4 nq hq oq e xy => ?_⟩
      have hL4 := s4.lst hL
      have neL : ∀ b xs, H4 b = some (.tup xs) → b ≠ L := fun b xs e z => by rw [z, hL4] at e; cases e
      refine ⟨_, hL4, ?_, ls ++ [(q, x, y)], (s3.trans s4).put nL, ?_, by rw [List.length_append, lL]; rfl, ⟨fun j z ez => ?_, by decide, fun i j h => by omega⟩⟩
      · unfold refsOf
        rw [List.length_map]
        exact Nat.lt_of_le_of_lt (show ls.length ≤ 1000 by omega) (by decide)
      · rw [upd_same]
        unfold refsOf
        rw [List.map_append]
        rfl
      · by_cases hj : j < ls.length
        · rw [List.getElem?_append_left hj] at ez
          obtain ⟨h1, h2, h3, h4⟩ := shl.at_ j z ez
          have h1' := s4.tup h1
          exact ⟨by rw [upd_ne (neL _ _ h1')]; exact h1', h2, h3, h4⟩
        · have jl := (List.getElem?_eq_some_iff.mp ez).1
          rw [List.length_append, List.length_singleton] at jl
          have je : j = ls.length := by omega
          subst je
          rw [List.getElem?_append_right (Nat.le_refl _), Nat.sub_self] at ez
          cases ez
          refine ⟨by rw [upd_ne (neL _ _ hq)]; exact hq, oq, xy (by omega), ?_⟩
          show x * 300 = ((ls.length : Nat) : Int) * y
          rw [e, lL, Int.zero_add]
    rintro H3 ⟨ls, s3, hL, lL, shl⟩
    have neL : ls ≠ [] := fun e => by rw [e] at lL; simp at lL
    have l301 : ls.length ≤ 900 := by omega
    have o01 : OfOk 0 1 := ⟨by decide, by decide, by decide, by decide, by decide⟩
    have o11 : OfOk 1 1 := ⟨by decide, by decide, by decide, by decide, by decide⟩
    have o72 : OfOk 7 2 := ⟨by decide, by decide, by decide, by decide, by decide⟩
    have s13 := s2.trans s3
    refine ⟨_, rfl, by show 2 ≤ sizeLine; decide, fun q1 n1 => ?_⟩
    have s4 := Sm.new (o := .tup [V.int 0, V.int 1]) n1
    refine ⟨L, q1, 300, _, ls, 0, 1, rfl, s4.lst hL, shl.sm s4, neL, l301, upd_same, o01, (s1.trans (s13.trans s4)).tabG tab, fun H5 s5 => ⟨true, rfl, iteF ?_⟩⟩
    have s15 := (s13.trans s4).trans s5
    refine ⟨_, rfl, _, rfl, a, 37, ns, rfl, (s1.trans s15).seqL hS, h63, by decide, fun c H6 s6 => ?_⟩
    have m0 := Int.emod_nonneg c (show (20 : Int) ≠ 0 by decide)
    have m1 := Int.emod_lt_of_pos c (show (0 : Int) < 20 by decide)
    refine ⟨_, _, rfl, rfl, by show (0 : Int) < 20; decide, _, _, rfl, rfl, 1 + c % 20, 300, rfl, by omega, by omega, by decide, by decide, fun q2 x y H7 s7 n2 h2 o2 e xy => ?_⟩
    have s37 := ((s4.trans s5).trans s6).trans s7
    have s17 := s13.trans s37
    refine ⟨L, q2, 300, _, ls, x, y, rfl, s37.lst hL, shl.sm s37, neL, l301, h2, o2, (s1.trans s17).tabG tab, fun H8 s8 => ⟨true, rfl, iteF ?_⟩⟩
    have s18 := s17.trans s8
    refine ⟨_, rfl, by show 2 ≤ sizeLine; decide, fun q3 n3 => ?_⟩
    have s19 := s18.trans (Sm.new (o := .tup [V.int 0, V.int 1]) n3)
    refine ⟨S, q3, B, t, qs, 0, 1, rfl, s19.lst hS1, sh.sm s19, ne, by omega, upd_same, o01, (s1.trans s19).tabG tab, fun H9 s9 => ⟨true, rfl, iteT ?_⟩⟩
    have z11 : gr t (offB B 1 1) (qs.length - 1) = [0] := gr_zero (fun i => by
      unfold offB
      have := (bt i).2
      have := (bt 0).1
      have := sh.b1
      exact decide_eq_false (by omega)) _
    have z72 : gr t (offB B 7 2) (qs.length - 1) = [0] := gr_zero (fun i => by
      unfold offB
      have := (bt i).2
      have := (bt 0).1
      have := sh.b1
      exact decide_eq_false (by omega)) _
    have s1a := s19.trans s9
    refine ⟨_, rfl, by show 2 ≤ sizeLine; decide, fun q4 n4 => ?_⟩
    have s1b := s1a.trans (Sm.new (o := .tup [V.int 1, V.int 1]) n4)
    refine ⟨S, q4, B, t, qs, 1, 1, rfl, s1b.lst hS1, sh.sm s1b, ne, by omega, upd_same, o11, (s1.trans s1b).tabG tab, fun Hc gA sc nA hA => ?_⟩
    rw [z11] at hA
    have hA : Hc gA = some (.lst [V.int 0]) := hA
    refine ⟨by show 1 ≤ sizeLine; decide, fun pA npA => ⟨.list [.int 0], .list [.int 0], .lst (SqL.of ((Sm.new npA).lst hA)) (.cons (.int _) .nil), .lst (SqL.of upd_same) (.cons (.int _) .nil), by decide +kernel, by decide +kernel, ?_⟩⟩
    rw [show PyData.eqv (.list [.int 0]) (.list [.int 0]) = true by decide +kernel]
    have s1d := (s1b.trans sc).trans (Sm.new (o := .lst [V.int 0]) npA)
    refine ⟨true, rfl, iteT ⟨_, rfl, by show 2 ≤ sizeLine; decide, fun q5 n5 => ?_⟩⟩
    have s1e := s1d.trans (Sm.new (o := .tup [V.int 7, V.int 2]) n5)
    refine ⟨S, q5, B, t, qs, 7, 2, rfl, s1e.lst hS1, sh.sm s1e, ne, by omega, upd_same, o72, (s1.trans s1e).tabG tab, fun Hf gB sf nB hB => ?_⟩
    rw [z72] at hB
    have hB : Hf gB = some (.lst [V.int 0]) := hB
    refine ⟨by show 1 ≤ sizeLine; decide, fun pB npB => ⟨.list [.int 0], .list [.int 0], .lst (SqL.of ((Sm.new npB).lst hB)) (.cons (.int _) .nil), .lst (SqL.of upd_same) (.cons (.int _) .nil), by decide +kernel, by decide +kernel, ?_⟩⟩
    rw [show PyData.eqv (.list [.int 0]) (.list [.int 0]) = true by decide +kernel]
    exact k _
end
end Hf
set_option Elab.async false
set_option maxRecDepth 100000
set_option maxHeartbeats 8000000
namespace Hf
open PySem L2
theorem tab_mk {K : PySem.W.Frag} {x : Str} {q cc T : Addr} {oq oc : Value} {od od2 : Option Addr} {sq sl : Array (Option Value)} {fd : FuncData} {vs : Array Value} (a : PySem.W.nsIn K mainGlobals x = some (some (.ref q))) (l : K.lookup q = some ⟨oq, od, .func fd, sq⟩)
    (e : fd.code = .ref cc) (c : K.lookup cc = some ⟨oc, od2, .fields vs, sl⟩) (v : (vs[11]? : Option Value) = some (.ref T)) : PySem.W.tabIn K x = some (cc, T) := by
  unfold PySem.W.tabIn
  simp only [a, l, e, c, v]
theorem all_mk {l : PySem.W.OpenLaw} {w : World} {K : PySem.W.Frag} {h : Heap} {mg : Str → Option Value} {fa : Addr} (X : K.In h) (G : h.Ns mainGlobals mg) (hfa : mg "law" = some (.ref fa))
    {cc0 T0 : Addr}
    {q0 : Addr} {od0 an0 : Option Addr} {sl0 : Array (Option Value)} {oc0 kV0 dc0 pm0 ct0 : Value}
    {cd0 : Value}
    {dT0 : Addr} {oT0 : Value} {dd0 : Option Addr} {nT0 : Nat} {slT0 : Array (Option Value)}
    {q1 : Addr} {od1 an1 : Option Addr} {sl1 : Array (Option Value)} {oc1 kV1 dc1 pm1 ct1 : Value}
    {cd1 : Value}
    {q2 : Addr} {od2 an2 : Option Addr} {sl2 : Array (Option Value)} {oc2 kV2 dc2 pm2 ct2 : Value}
    {cd2 : Value}
    {q3 : Addr} {od3 an3 : Option Addr} {sl3 : Array (Option Value)} {oc3 kV3 dc3 pm3 ct3 : Value}
    {cd3 : Value}
    {q4 : Addr} {od4 an4 : Option Addr} {sl4 : Array (Option Value)} {oc4 kV4 dc4 pm4 ct4 : Value}
    {cd4 : Value}
    {q5 : Addr} {od5 an5 : Option Addr} {sl5 : Array (Option Value)} {oc5 kV5 dc5 pm5 ct5 : Value}
    {cd5 : Value}
    {q6 : Addr} {od6 an6 : Option Addr} {sl6 : Array (Option Value)} {oc6 kV6 dc6 pm6 ct6 : Value}
    {cd6 : Value}
    {q7 : Addr} {od7 an7 : Option Addr} {sl7 : Array (Option Value)} {oc7 kV7 dc7 pm7 ct7 : Value}
    {q8 : Addr} {od8 an8 : Option Addr} {sl8 : Array (Option Value)} {oc8 kV8 dc8 pm8 ct8 : Value}
    {cd8 : Value}
    {q9 : Addr} {od9 an9 : Option Addr} {sl9 : Array (Option Value)} {oc9 kV9 dc9 pm9 ct9 : Value}
    {cd9 : Value}
    {q10 : Addr} {od10 an10 : Option Addr} {sl10 : Array (Option Value)} {oc10 kV10 dc10 pm10 ct10 : Value}
    {cd10 : Value}
    {q11 : Addr} {od11 an11 : Option Addr} {sl11 : Array (Option Value)} {oc11 kV11 dc11 pm11 ct11 : Value}
    {cd11 : Value}
    {q12 : Addr} {od12 an12 : Option Addr} {sl12 : Array (Option Value)} {oc12 kV12 dc12 pm12 ct12 : Value}
    {cd12 : Value}
    {q13 : Addr} {od13 an13 : Option Addr} {sl13 : Array (Option Value)} {oc13 kV13 dc13 pm13 ct13 : Value}
    {cd13 : Value}
    {q14 : Addr} {od14 an14 : Option Addr} {sl14 : Array (Option Value)} {oc14 kV14 dc14 pm14 ct14 : Value}
    {cd14 : Value}
    {q15 : Addr} {od15 an15 : Option Addr} {sl15 : Array (Option Value)} {oc15 kV15 dc15 pm15 ct15 : Value}
    {cd15 : Value}
    {q16 : Addr} {od16 an16 : Option Addr} {sl16 : Array (Option Value)} {oc16 kV16 dc16 pm16 ct16 : Value}
    {cd16 : Value}
    {cT_WHOLE : Addr} {oT_WHOLE : Option Addr} {nT_WHOLE : Nat} {sT_WHOLE : Array (Option Value)} {tt_WHOLE_0 tt_WHOLE_1 : Tok}
    {oc_t0 : Value} {od_t0 : Option Addr} {vs_t0 : Array Value} {sl_t0 : Array (Option Value)}
    (a0 : PySem.W.nsIn K mainGlobals "is_number" = some (some (.ref q0)))
    (l0 : K.lookup q0 = some ⟨oc0, od0, .func (PySem.W.fnOf "is_number" "is_number" (defArgs sIsNumber) (defBody sIsNumber) (defScope sIsNumber) (.ref dT0) kV0 dc0 pm0 an0 cd0 ct0), sl0⟩)
    (c0 : PySem.W.codeIn K cd0 "is_number" = true)
    (k0 : PySem.W.keepIn K (.ref q0) = true)
    (lT0 : K.lookup dT0 = some ⟨oT0, dd0, .seq ([.none] : List Value).toArray nT0, slT0⟩)
    (a1 : PySem.W.nsIn K mainGlobals "share" = some (some (.ref q1)))
    (l1 : K.lookup q1 = some ⟨oc1, od1, .func (PySem.W.fnOf "share" "share" (defArgs sShare) (defBody sShare) (defScope sShare) .none kV1 dc1 pm1 an1 cd1 ct1), sl1⟩)
    (c1 : PySem.W.codeIn K cd1 "share" = true)
    (k1 : PySem.W.keepIn K (.ref q1) = true)
    (a2 : PySem.W.nsIn K mainGlobals "is_share" = some (some (.ref q2)))
    (l2 : K.lookup q2 = some ⟨oc2, od2, .func (PySem.W.fnOf "is_share" "is_share" (defArgs sIsShare) (defBody sIsShare) (defScope sIsShare) .none kV2 dc2 pm2 an2 cd2 ct2), sl2⟩)
    (c2 : PySem.W.codeIn K cd2 "is_share" = true)
    (k2 : PySem.W.keepIn K (.ref q2) = true)
    (a3 : PySem.W.nsIn K mainGlobals "is_less" = some (some (.ref q3)))
    (l3 : K.lookup q3 = some ⟨oc3, od3, .func (PySem.W.fnOf "is_less" "is_less" (defArgs sIsLess) (defBody sIsLess) (defScope sIsLess) .none kV3 dc3 pm3 an3 cd3 ct3), sl3⟩)
    (c3 : PySem.W.codeIn K cd3 "is_less" = true)
    (k3 : PySem.W.keepIn K (.ref q3) = true)
    (a4 : PySem.W.nsIn K mainGlobals "plus" = some (some (.ref q4)))
    (l4 : K.lookup q4 = some ⟨oc4, od4, .func (PySem.W.fnOf "plus" "plus" (defArgs sPlus) (defBody sPlus) (defScope sPlus) .none kV4 dc4 pm4 an4 cd4 ct4), sl4⟩)
    (c4 : PySem.W.codeIn K cd4 "plus" = true)
    (k4 : PySem.W.keepIn K (.ref q4) = true)
    (a5 : PySem.W.nsIn K mainGlobals "few" = some (some (.ref q5)))
    (l5 : K.lookup q5 = some ⟨oc5, od5, .func (PySem.W.fnOf "few" "few" (defArgs sFew) (defBody sFew) (defScope sFew) .none kV5 dc5 pm5 an5 cd5 ct5), sl5⟩)
    (c5 : PySem.W.codeIn K cd5 "few" = true)
    (k5 : PySem.W.keepIn K (.ref q5) = true)
    (a6 : PySem.W.nsIn K mainGlobals "is_within_whole" = some (some (.ref q6)))
    (l6 : K.lookup q6 = some ⟨oc6, od6, .func (PySem.W.fnOf "is_within_whole" "is_within_whole" (defArgs sIsWithinWhole) (defBody sIsWithinWhole) (defScope sIsWithinWhole) .none kV6 dc6 pm6 an6 cd6 ct6), sl6⟩)
    (c6 : PySem.W.codeIn K cd6 "is_within_whole" = true)
    (k6 : PySem.W.keepIn K (.ref q6) = true)
    (a7 : PySem.W.nsIn K mainGlobals "are_rising" = some (some (.ref q7)))
    (l7 : K.lookup q7 = some ⟨oc7, od7, .func (PySem.W.fnOf "are_rising" "are_rising" (defArgs sAreRising) (defBody sAreRising) (defScope sAreRising) .none kV7 dc7 pm7 an7 (.ref cc0) ct7), sl7⟩)
    (c7 : PySem.W.codeIn K (.ref cc0) "are_rising" = true)
    (k7 : PySem.W.keepIn K (.ref q7) = true)
    (a8 : PySem.W.nsIn K mainGlobals "_law_cell_at" = some (some (.ref q8)))
    (l8 : K.lookup q8 = some ⟨oc8, od8, .func (PySem.W.fnOf "_law_cell_at" "_law_cell_at" (defArgs sLawCellAt) (defBody sLawCellAt) (defScope sLawCellAt) .none kV8 dc8 pm8 an8 cd8 ct8), sl8⟩)
    (c8 : PySem.W.codeIn K cd8 "_law_cell_at" = true)
    (k8 : PySem.W.keepIn K (.ref q8) = true)
    (a9 : PySem.W.nsIn K mainGlobals "_law_numbers" = some (some (.ref q9)))
    (l9 : K.lookup q9 = some ⟨oc9, od9, .func (PySem.W.fnOf "_law_numbers" "_law_numbers" (defArgs sLawNumbers) (defBody sLawNumbers) (defScope sLawNumbers) .none kV9 dc9 pm9 an9 cd9 ct9), sl9⟩)
    (c9 : PySem.W.codeIn K cd9 "_law_numbers" = true)
    (k9 : PySem.W.keepIn K (.ref q9) = true)
    (a10 : PySem.W.nsIn K mainGlobals "_law_share" = some (some (.ref q10)))
    (l10 : K.lookup q10 = some ⟨oc10, od10, .func (PySem.W.fnOf "_law_share" "_law_share" (defArgs sLawShare) (defBody sLawShare) (defScope sLawShare) .none kV10 dc10 pm10 an10 cd10 ct10), sl10⟩)
    (c10 : PySem.W.codeIn K cd10 "_law_share" = true)
    (k10 : PySem.W.keepIn K (.ref q10) = true)
    (a11 : PySem.W.nsIn K mainGlobals "_law_shares" = some (some (.ref q11)))
    (l11 : K.lookup q11 = some ⟨oc11, od11, .func (PySem.W.fnOf "_law_shares" "_law_shares" (defArgs sLawShares) (defBody sLawShares) (defScope sLawShares) .none kV11 dc11 pm11 an11 cd11 ct11), sl11⟩)
    (c11 : PySem.W.codeIn K cd11 "_law_shares" = true)
    (k11 : PySem.W.keepIn K (.ref q11) = true)
    (a12 : PySem.W.nsIn K mainGlobals "_law_is_off" = some (some (.ref q12)))
    (l12 : K.lookup q12 = some ⟨oc12, od12, .func (PySem.W.fnOf "_law_is_off" "_law_is_off" (defArgs sLawIsOff) (defBody sLawIsOff) (defScope sLawIsOff) .none kV12 dc12 pm12 an12 cd12 ct12), sl12⟩)
    (c12 : PySem.W.codeIn K cd12 "_law_is_off" = true)
    (k12 : PySem.W.keepIn K (.ref q12) = true)
    (a13 : PySem.W.nsIn K mainGlobals "_law_shows" = some (some (.ref q13)))
    (l13 : K.lookup q13 = some ⟨oc13, od13, .func (PySem.W.fnOf "_law_shows" "_law_shows" (defArgs sLawShows) (defBody sLawShows) (defScope sLawShows) .none kV13 dc13 pm13 an13 cd13 ct13), sl13⟩)
    (c13 : PySem.W.codeIn K cd13 "_law_shows" = true)
    (k13 : PySem.W.keepIn K (.ref q13) = true)
    (a14 : PySem.W.nsIn K mainGlobals "_law_fewest" = some (some (.ref q14)))
    (l14 : K.lookup q14 = some ⟨oc14, od14, .func (PySem.W.fnOf "_law_fewest" "_law_fewest" (defArgs sLawFewest) (defBody sLawFewest) (defScope sLawFewest) .none kV14 dc14 pm14 an14 cd14 ct14), sl14⟩)
    (c14 : PySem.W.codeIn K cd14 "_law_fewest" = true)
    (k14 : PySem.W.keepIn K (.ref q14) = true)
    (a15 : PySem.W.nsIn K mainGlobals "_law_right" = some (some (.ref q15)))
    (l15 : K.lookup q15 = some ⟨oc15, od15, .func (PySem.W.fnOf "_law_right" "_law_right" (defArgs sLawRight) (defBody sLawRight) (defScope sLawRight) .none kV15 dc15 pm15 an15 cd15 ct15), sl15⟩)
    (c15 : PySem.W.codeIn K cd15 "_law_right" = true)
    (k15 : PySem.W.keepIn K (.ref q15) = true)
    (a16 : PySem.W.nsIn K mainGlobals "law" = some (some (.ref q16)))
    (l16 : K.lookup q16 = some ⟨oc16, od16, .func (PySem.W.fnOf "law" "law" (defArgs sLaw) (defBody sLaw) (defScope sLaw) .none kV16 dc16 pm16 an16 cd16 ct16), sl16⟩)
    (c16 : PySem.W.codeIn K cd16 "law" = true)
    (k16 : PySem.W.keepIn K (.ref q16) = true)
    (bi_gcd : PySem.W.nsIn K mainGlobals "gcd" = some (some (.builtin "math.gcd")))
    (at_WHOLE : PySem.W.nsIn K mainGlobals "WHOLE" = some (some (.ref cT_WHOLE)))
    (lt_WHOLE : K.lookup cT_WHOLE = some ⟨.type "tuple", oT_WHOLE, .seq ([.int 1 tt_WHOLE_0, .int 1 tt_WHOLE_1] : List Value).toArray nT_WHOLE, sT_WHOLE⟩)
    (z_isinstance : PySem.W.nsIn K mainGlobals "isinstance" = some none)
    (z_int : PySem.W.nsIn K mainGlobals "int" = some none)
    (z_bool : PySem.W.nsIn K mainGlobals "bool" = some none)
    (z_str : PySem.W.nsIn K mainGlobals "str" = some none)
    (z_list : PySem.W.nsIn K mainGlobals "list" = some none)
    (z_tuple : PySem.W.nsIn K mainGlobals "tuple" = some none)
    (z_dict : PySem.W.nsIn K mainGlobals "dict" = some none)
    (z_len : PySem.W.nsIn K mainGlobals "len" = some none)
    (z_all : PySem.W.nsIn K mainGlobals "all" = some none)
    (z_any : PySem.W.nsIn K mainGlobals "any" = some none)
    (z_set : PySem.W.nsIn K mainGlobals "set" = some none)
    (z_max : PySem.W.nsIn K mainGlobals "max" = some none)
    (z_min : PySem.W.nsIn K mainGlobals "min" = some none)
    (z_range : PySem.W.nsIn K mainGlobals "range" = some none)
    (z_zip : PySem.W.nsIn K mainGlobals "zip" = some none)
    (z_sum : PySem.W.nsIn K mainGlobals "sum" = some none)
    (z_sorted : PySem.W.nsIn K mainGlobals "sorted" = some none)
    (z_abs : PySem.W.nsIn K mainGlobals "abs" = some none)
    (z_enumerate : PySem.W.nsIn K mainGlobals "enumerate" = some none)
    (lc0 : K.lookup cc0 = some ⟨oc_t0, od_t0, .fields vs_t0, sl_t0⟩)
    (vc0 : (vs_t0[11]? : Option Value) = some (.ref T0))
    (nl0 : K.lookup T0 = none) :
    ∃ cc0 T0 : Addr, PySem.W.tabIn K "are_rising" = some (cc0, T0) ∧ K.lookup T0 = none ∧ ∃ fd : FuncData, (∀ (s : Shared) (v : Value), BindsTo s fd ⟨[v], []⟩ [("_law_script", v)]) ∧ ∀ base : Heap, K.In base → base.Ns mainGlobals mg → GxR.TabB base mg cc0 T0 → FnOk l.prog w K mg base CX0 9 fa fd ["_law_script"] (spLaw K T0) := by
  have e := hfa.symm.trans (PySem.W.mg_of X G a16)
  cases e
  have g0 : Gd K mg "is_number" sIsNumber [.non] q0 _ := ⟨⟨⟨oc0, od0, .ref dT0, kV0, dc0, pm0, an0, cd0, ct0, sl0, rfl, l0, c0, .inr ⟨by simp, dT0, _, _, _, rfl, lT0, rfl, .cons rfl .nil⟩, .inl rfl⟩, k0⟩, PySem.W.mg_of X G a0⟩
  have F1 := fun_mk (st := sShare) l1 c1 k1
  have b1 := F1.binds (ps := ["over", "under"]) fun _ _ _ _ _ _ us hl => match us, hl with | [_, _], _ => rfl
  have g1 : Gf K mg "share" sShare ["over", "under"] q1 _ := ⟨F1, PySem.W.mg_of X G a1, b1⟩
  have F2 := fun_mk (st := sIsShare) l2 c2 k2
  have b2 := F2.binds (ps := ["value"]) fun _ _ _ _ _ _ us hl => match us, hl with | [_], _ => rfl
  have g2 : Gf K mg "is_share" sIsShare ["value"] q2 _ := ⟨F2, PySem.W.mg_of X G a2, b2⟩
  have F3 := fun_mk (st := sIsLess) l3 c3 k3
  have b3 := F3.binds (ps := ["one", "other"]) fun _ _ _ _ _ _ us hl => match us, hl with | [_, _], _ => rfl
  have g3 : Gf K mg "is_less" sIsLess ["one", "other"] q3 _ := ⟨F3, PySem.W.mg_of X G a3, b3⟩
  have F4 := fun_mk (st := sPlus) l4 c4 k4
  have b4 := F4.binds (ps := ["one", "other"]) fun _ _ _ _ _ _ us hl => match us, hl with | [_, _], _ => rfl
  have g4 : Gf K mg "plus" sPlus ["one", "other"] q4 _ := ⟨F4, PySem.W.mg_of X G a4, b4⟩
  have F5 := fun_mk (st := sFew) l5 c5 k5
  have b5 := F5.binds (ps := ["shares", "off"]) fun _ _ _ _ _ _ us hl => match us, hl with | [_, _], _ => rfl
  have g5 : Gf K mg "few" sFew ["shares", "off"] q5 _ := ⟨F5, PySem.W.mg_of X G a5, b5⟩
  have F6 := fun_mk (st := sIsWithinWhole) l6 c6 k6
  have b6 := F6.binds (ps := ["value"]) fun _ _ _ _ _ _ us hl => match us, hl with | [_], _ => rfl
  have g6 : Gf K mg "is_within_whole" sIsWithinWhole ["value"] q6 _ := ⟨F6, PySem.W.mg_of X G a6, b6⟩
  have F7 := fun_mk (st := sAreRising) l7 c7 k7
  have b7 := F7.binds (ps := ["value"]) fun _ _ _ _ _ _ us hl => match us, hl with | [_], _ => rfl
  have g7 : Gf K mg "are_rising" sAreRising ["value"] q7 _ := ⟨F7, PySem.W.mg_of X G a7, b7⟩
  have F8 := fun_mk (st := sLawCellAt) l8 c8 k8
  have b8 := F8.binds (ps := ["_law_script", "_law_k"]) fun _ _ _ _ _ _ us hl => match us, hl with | [_, _], _ => rfl
  have g8 : Gf K mg "_law_cell_at" sLawCellAt ["_law_script", "_law_k"] q8 _ := ⟨F8, PySem.W.mg_of X G a8, b8⟩
  have F9 := fun_mk (st := sLawNumbers) l9 c9 k9
  have b9 := F9.binds (ps := ["_law_cell", "_law_bounds"]) fun _ _ _ _ _ _ us hl => match us, hl with | [_, _], _ => rfl
  have g9 : Gf K mg "_law_numbers" sLawNumbers ["_law_cell", "_law_bounds"] q9 _ := ⟨F9, PySem.W.mg_of X G a9, b9⟩
  have F10 := fun_mk (st := sLawShare) l10 c10 k10
  have b10 := F10.binds (ps := ["_law_top", "_law_bottom"]) fun _ _ _ _ _ _ us hl => match us, hl with | [_, _], _ => rfl
  have g10 : Gf K mg "_law_share" sLawShare ["_law_top", "_law_bottom"] q10 _ := ⟨F10, PySem.W.mg_of X G a10, b10⟩
  have F11 := fun_mk (st := sLawShares) l11 c11 k11
  have b11 := F11.binds (ps := ["_law_script"]) fun _ _ _ _ _ _ us hl => match us, hl with | [_], _ => rfl
  have g11 : Gf K mg "_law_shares" sLawShares ["_law_script"] q11 _ := ⟨F11, PySem.W.mg_of X G a11, b11⟩
  have F12 := fun_mk (st := sLawIsOff) l12 c12 k12
  have b12 := F12.binds (ps := ["_law_one", "_law_other", "_law_off"]) fun _ _ _ _ _ _ us hl => match us, hl with | [_, _, _], _ => rfl
  have g12 : Gf K mg "_law_is_off" sLawIsOff ["_law_one", "_law_other", "_law_off"] q12 _ := ⟨F12, PySem.W.mg_of X G a12, b12⟩
  have F13 := fun_mk (st := sLawShows) l13 c13 k13
  have b13 := F13.binds (ps := ["_law_shares_here", "_law_chosen", "_law_off"]) fun _ _ _ _ _ _ us hl => match us, hl with | [_, _, _], _ => rfl
  have g13 : Gf K mg "_law_shows" sLawShows ["_law_shares_here", "_law_chosen", "_law_off"] q13 _ := ⟨F13, PySem.W.mg_of X G a13, b13⟩
  have F14 := fun_mk (st := sLawFewest) l14 c14 k14
  have b14 := F14.binds (ps := ["_law_shares_here", "_law_off"]) fun _ _ _ _ _ _ us hl => match us, hl with | [_, _], _ => rfl
  have g14 : Gf K mg "_law_fewest" sLawFewest ["_law_shares_here", "_law_off"] q14 _ := ⟨F14, PySem.W.mg_of X G a14, b14⟩
  have F15 := fun_mk (st := sLawRight) l15 c15 k15
  have b15 := F15.binds (ps := ["_law_shares_here", "_law_off"]) fun _ _ _ _ _ _ us hl => match us, hl with | [_, _], _ => rfl
  have g15 : Gf K mg "_law_right" sLawRight ["_law_shares_here", "_law_off"] q15 _ := ⟨F15, PySem.W.mg_of X G a15, b15⟩
  have F16 := fun_mk (st := sLaw) l16 c16 k16
  have kt_WHOLE : ∀ H : Hp, SqT K H cT_WHOLE [.int 1, .int 1] := fun H => .inr ⟨_, _, _, lt_WHOLE, rfl, rfl, by show 2 ≤ sizeLine; decide, .cons ⟨_, rfl⟩ (.cons ⟨_, rfl⟩ .nil)⟩
  have b : Bi mg := ⟨PySem.W.mg_none_of X G z_isinstance, PySem.W.mg_none_of X G z_int, PySem.W.mg_none_of X G z_bool, PySem.W.mg_none_of X G z_str, PySem.W.mg_none_of X G z_list, PySem.W.mg_none_of X G z_tuple, PySem.W.mg_none_of X G z_dict, PySem.W.mg_none_of X G z_len, PySem.W.mg_none_of X G z_all, PySem.W.mg_none_of X G z_any, PySem.W.mg_none_of X G z_set, PySem.W.mg_none_of X G z_max, PySem.W.mg_none_of X G z_min, PySem.W.mg_none_of X G z_range, PySem.W.mg_none_of X G z_zip, PySem.W.mg_none_of X G z_sum, PySem.W.mg_none_of X G z_sorted, PySem.W.mg_none_of X G z_abs, PySem.W.mg_none_of X G z_enumerate⟩
  have tb0 : PySem.W.tabIn K "are_rising" = some (cc0, T0) := tab_mk a7 l7 rfl lc0 vc0
  refine ⟨cc0, T0, tb0, nl0, PySem.W.fnOf "law" "law" (defArgs sLaw) (defBody sLaw) (defScope sLaw) .none kV16 dc16 pm16 an16 cd16 ct16, fun s v => .of_eq rfl, fun base _ _ tB0 => ?_⟩
  have gt0 : Gt K mg base "are_rising" sAreRising ["value"] q7 _ T0 := ⟨g7, cc0, PySem.W.law_code X G tb0 (PySem.W.mg_of X G a7) (X _ _ l7) rfl, tB0⟩
  exact ok_law F16 g5 g13 g12 gt0 g4 g1 g6 g2 g3 g0 g8 g9 g10 g11 g14 g15 b (PySem.W.mg_of X G bi_gcd) (PySem.W.mg_of X G at_WHOLE) kt_WHOLE
section
open PySem.Spec PyProof.Rows
theorem walk {l : PySem.W.OpenLaw} {q : Program} {loose : List Str} {XP : (Str → Option Value) → Heap → Prop} {YP : World → Heap → Prop} {d d0 : DefRec} {K : Params → PySem.W.Frag} (hn : l.most = some 63) (hdf : d.params.defaults = [])
    (hY : ∀ (w : World) (h : Heap), YP w h → (K w.params).In h) (r0 : (recsOf q).find? (fun e => e.name == ("are_rising" : Str)) = some d0)
    (F : ∀ (w : World) (mg : Str → Option Value) (fa : Addr) (h : Heap), (K w.params).In h → h.Ns mainGlobals mg → mg d.name = some (.ref fa) →
      ∃ cc0 T0 : Addr, PySem.W.tabIn (K w.params) "are_rising" = some (cc0, T0) ∧ (K w.params).lookup T0 = none ∧ ∃ fd : FuncData, (∀ (s : Shared) (v : Value), BindsTo s fd ⟨[v], []⟩ [("_law_script", v)]) ∧ ∀ base : Heap, (K w.params).In base → base.Ns mainGlobals mg → GxR.TabB base mg cc0 T0 → FnOk l.prog w (K w.params) mg base CX0 9 fa fd ["_law_script"] (spLaw (K w.params) T0)) :
    PySem.W.WalkO q loose XP YP l.row.toRowW d [] (fun f vs => PySem.call f vs) := by
  refine Att.attach_callB hn hdf fun w s0 s1 mg mb fa o pm cd doc a vs ns G Y ho hd hcd hmg hobj hints hlen hbits hg => ?_
  have KX := hY w _ Y
  obtain ⟨cc0, T0, t0, n0, fd, hb, hF⟩ := F w mg fa _ KX G.T.g hmg
  obtain ⟨e0, f0⟩ := PySem.W.tab_of G.T KX r0 t0
  have each : ∀ {R : Addr × Addr → Prop}, R (cc0, T0) → ∀ p ∈ [(cc0, T0)], R p := by
    intro R h0 p hp
    simp only [List.mem_cons, List.not_mem_nil, or_false] at hp
    rw [hp]
    exact h0
  exact LamX.law_callTs (k := 9) (CX := CX0) (cs := [(cc0, T0)]) (sp := spLaw (K w.params) T0) KX G.T.g G.T.b G.T.builtins G.T.nolimit hg (each f0) (each n0) (each e0) G.T.bmain hobj hints (Nat.le_trans hlen (by decide)) ⟨rfl, by decide, by decide⟩
    (fun base kb gb tb => hF base kb gb (let t := tb (cc0, T0) (by simp); ⟨t.code, t.bm, t.gP⟩)) hb
    (fun H hH hS => ⟨a, ns, rfl, hS, hlen, ⟨#[], hH (cc0, T0) (by simp), trivial⟩, fun _ => rfl⟩) fun H e s' z => z
end
end Hf
open PySem PySem.W PyProof.Rows
set_option Elab.async false
set_option maxRecDepth 100000 in
set_option maxHeartbeats 0 in
theorem PySem.Challenge.cw_howfar_k07_whole_few_holds : PySem.Challenge.rw_howfar_k07_whole_few.Holds := by
  w_on; o_law; k_head; (case hw => w_witness2)
  k_fill
  refine Hf.walk (l := PySem.Challenge.rw_howfar_k07_whole_few) rfl rfl (fun w h Y => PySem.W.kIn_of Y) rfl ?F
  case F =>
    intro w mg fa h KX G hmg
    refine' Hf.all_mk KX G hmg ?a0 ?l0 ?c0 ?k0 ?lT0 ?a1 ?l1 ?c1 ?k1 ?a2 ?l2 ?c2 ?k2 ?a3 ?l3 ?c3 ?k3 ?a4 ?l4 ?c4 ?k4 ?a5 ?l5 ?c5 ?k5 ?a6 ?l6 ?c6 ?k6 ?a7 ?l7 ?c7 ?k7 ?a8 ?l8 ?c8 ?k8 ?a9 ?l9 ?c9 ?k9 ?a10 ?l10 ?c10 ?k10 ?a11 ?l11 ?c11 ?k11 ?a12 ?l12 ?c12 ?k12 ?a13 ?l13 ?c13 ?k13 ?a14 ?l14 ?c14 ?k14 ?a15 ?l15 ?c15 ?k15 ?a16 ?l16 ?c16 ?k16 ?bi_gcd ?at_WHOLE ?lt_WHOLE ?z_isinstance ?z_int ?z_bool ?z_str ?z_list ?z_tuple ?z_dict ?z_len ?z_all ?z_any ?z_set ?z_max ?z_min ?z_range ?z_zip ?z_sum ?z_sorted ?z_abs ?z_enumerate ?lc0 ?vc0 ?nl0
    (case a0 => k_is)
    (case a1 => k_is)
    (case a2 => k_is)
    (case a3 => k_is)
    (case a4 => k_is)
    (case a5 => k_is)
    (case a6 => k_is)
    (case a7 => k_is)
    (case a8 => k_is)
    (case a9 => k_is)
    (case a10 => k_is)
    (case a11 => k_is)
    (case a12 => k_is)
    (case a13 => k_is)
    (case a14 => k_is)
    (case a15 => k_is)
    (case a16 => k_is)
    (case at_WHOLE => k_is)
    (case l0 => k_is)
    (case l1 => k_is)
    (case l2 => k_is)
    (case l3 => k_is)
    (case l4 => k_is)
    (case l5 => k_is)
    (case l6 => k_is)
    (case l7 => k_is)
    (case l8 => k_is)
    (case l9 => k_is)
    (case l10 => k_is)
    (case l11 => k_is)
    (case l12 => k_is)
    (case l13 => k_is)
    (case l14 => k_is)
    (case l15 => k_is)
    (case l16 => k_is)
    (case lt_WHOLE => k_is)
    (case lc0 => k_is)
    (case vc0 => rfl)
    (case c0 => k_is)
    (case k0 => k_is)
    (case lT0 => k_is)
    (case c1 => k_is)
    (case k1 => k_is)
    (case c2 => k_is)
    (case k2 => k_is)
    (case c3 => k_is)
    (case k3 => k_is)
    (case c4 => k_is)
    (case k4 => k_is)
    (case c5 => k_is)
    (case k5 => k_is)
    (case c6 => k_is)
    (case k6 => k_is)
    (case c7 => k_is)
    (case k7 => k_is)
    (case c8 => k_is)
    (case k8 => k_is)
    (case c9 => k_is)
    (case k9 => k_is)
    (case c10 => k_is)
    (case k10 => k_is)
    (case c11 => k_is)
    (case k11 => k_is)
    (case c12 => k_is)
    (case k12 => k_is)
    (case c13 => k_is)
    (case k13 => k_is)
    (case c14 => k_is)
    (case k14 => k_is)
    (case c15 => k_is)
    (case k15 => k_is)
    (case c16 => k_is)
    (case k16 => k_is)
    (case bi_gcd => k_is)
    (case z_isinstance => k_is)
    (case z_int => k_is)
    (case z_bool => k_is)
    (case z_str => k_is)
    (case z_list => k_is)
    (case z_tuple => k_is)
    (case z_dict => k_is)
    (case z_len => k_is)
    (case z_all => k_is)
    (case z_any => k_is)
    (case z_set => k_is)
    (case z_max => k_is)
    (case z_min => k_is)
    (case z_range => k_is)
    (case z_zip => k_is)
    (case z_sum => k_is)
    (case z_sorted => k_is)
    (case z_abs => k_is)
    (case z_enumerate => k_is)
    (case nl0 => rfl)
