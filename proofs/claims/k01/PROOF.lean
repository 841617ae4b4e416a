import PyProof.Rows.All
import Wide.All
import OpenK.AllK
import Wide.FinOn
import HandS.ForMost
import HandS.Exc
import HandS.TryOnly
import HandS.AnyAll
import HandS.IsInst
import HandS.Defaults
import HandS.MakeKw
import HandS.Zip
import HandS.Strs
import HandS.Wide
import HandS.EndTab
import HandS.Codes
import HandS.Style
import HandS.Gcd
import HandS.FStr
import HandS.GenList
import HandS.Nested
import PySem.Challenge.RW_howfar_k01_works
set_option Elab.async false
set_option maxRecDepth 100000
set_option maxHeartbeats 4000000
namespace Hf
open PySem L2 PySem.Spec PyProof.Rows
/-! ## heaps: all that is tracked stays, tables may grow -/
def NTb (o : HO) : Prop := ∀ q, o ≠ .tbl q
structure Sm (H H' : Hp) : Prop where
  keep : ∀ b o, H b = some o → NTb o → H' b = some o
  tab : ∀ b q, H b = some (.tbl q) → ∃ q', H' b = some (.tbl q') ∧ (TriplesOk q.toList → TriplesOk q'.toList)
theorem Sm.refl (H : Hp) : Sm H H := ⟨fun _ _ h _ => h, fun _ q h => ⟨q, h, fun z => z⟩⟩
theorem Sm.trans {H H1 H2 : Hp} (a : Sm H H1) (b : Sm H1 H2) : Sm H H2 :=
  ⟨fun c o h n => b.keep c o (a.keep c o h n) n, fun c q h => by
    obtain ⟨q1, h1, t1⟩ := a.tab c q h
    obtain ⟨q2, h2, t2⟩ := b.tab c q1 h1
    exact ⟨q2, h2, fun z => t2 (t1 z)⟩⟩
theorem Sm.free {H H' : Hp} (e : Sm H H') {l : Addr} (h : H' l = Option.none) : H l = Option.none := by
  cases q : H l with
  | none => rfl
  | some o =>
    by_cases hn : NTb o
    · rw [e.keep l o q hn] at h
      cases h
    · cases o with
      | tbl ps =>
        obtain ⟨q', h', _⟩ := e.tab l ps q
        rw [h'] at h
        cases h
      | _ => exact absurd (fun _ z => by cases z) hn
theorem ntb_lst {xs : List V} : NTb (.lst xs) := fun _ z => by cases z
theorem ntb_tup {xs : List V} : NTb (.tup xs) := fun _ z => by cases z
theorem ntb_ins {C dx : Addr} {fs : List (Str × V)} : NTb (.ins C dx fs) := fun _ z => by cases z
theorem ntb_frz {o : Obj} {u : HO} : NTb (.frz o u) := fun _ z => by cases z
theorem ntb_dK {k : List (Key × V)} : NTb (.dK k) := fun _ z => by cases z
theorem Sm.lst {H H' : Hp} (e : Sm H H') {a : Addr} {xs : List V} (h : H a = some (.lst xs)) : H' a = some (.lst xs) := e.keep _ _ h ntb_lst
theorem Sm.tup {H H' : Hp} (e : Sm H H') {a : Addr} {xs : List V} (h : H a = some (.tup xs)) : H' a = some (.tup xs) := e.keep _ _ h ntb_tup
theorem Sm.ins {H H' : Hp} (e : Sm H H') {a C dx : Addr} {fs : List (Str × V)} (h : H a = some (.ins C dx fs)) : H' a = some (.ins C dx fs) := e.keep _ _ h ntb_ins
theorem Sm.dK {H H' : Hp} (e : Sm H H') {a : Addr} {k : List (Key × V)} (h : H a = some (.dK k)) : H' a = some (.dK k) := e.keep _ _ h ntb_dK
theorem Sm.new {H : Hp} {p : Addr} {o : HO} (h : H p = Option.none) : Sm H (upd H p o) :=
  ⟨fun b u q _ => by rw [upd_ne (ne_of_none q h)]; exact q, fun b q z => ⟨q, by rw [upd_ne (ne_of_none z h)]; exact z, fun z => z⟩⟩
/-- what was new since H is written -/
theorem Sm.put {H H' : Hp} (e : Sm H H') {p : Addr} {o : HO} (h : H p = Option.none) : Sm H (upd H' p o) :=
  ⟨fun b u q n => by rw [upd_ne (ne_of_none q h)]; exact e.keep b u q n, fun b q z => by
    obtain ⟨q', h', t⟩ := e.tab b q z
    exact ⟨q', by rw [upd_ne (ne_of_none z h)]; exact h', t⟩⟩
theorem Sm.seqL {K : PySem.W.Frag} {H H' : Hp} {a : Addr} {xs : List V} (e : Sm H H') (h : SqL K H a xs) : SqL K H' a xs := by
  rcases h with (h | ⟨o, h⟩) | h
  · exact .inl (.inl (e.lst h))
  · exact .inl (.inr ⟨o, e.keep _ _ h ntb_frz⟩)
  · exact .inr h
abbrev Tab (H : Hp) (P : Addr) : Prop := GxR.TabG H P
theorem Sm.tabG {H H' : Hp} (e : Sm H H') {P : Addr} (h : Tab H P) : Tab H' P := by
  obtain ⟨ps, h1, h2⟩ := h
  obtain ⟨q, h3, h4⟩ := e.tab P ps h1
  exact ⟨q, h3, h4 h2⟩
theorem Sm.tabbed {H H' : Hp} {P : Addr} (h : Tab H P) (t : GxR.Tabbed P H H') : Sm H H' := by
  obtain ⟨ps, h1, _⟩ := h
  obtain ⟨⟨qs, h3, h4⟩, h5⟩ := t
  refine ⟨fun b o e n => ?_, fun b q e => ?_⟩
  · by_cases hb : b = P
    · rw [hb, h1] at e
      cases e
      exact absurd rfl (n ps)
    · rw [h5 b hb]
      exact e
  · by_cases hb : b = P
    · rw [hb]
      exact ⟨qs, h3, fun _ => h4⟩
    · exact ⟨q, by rw [h5 b hb]; exact e, fun z => z⟩
/-! ## plans -/
mutual
inductive Tr where
  | leaf (nm : Str) (st : Option Int)
  | node (b : Bool) (nm : Str) (ps : Ps)
inductive Ps where
  | nil
  | cons (w : Int) (t : Tr) (r : Ps)
end
def Ps.toL : Ps → List (Int × Tr)
  | .nil => []
  | .cons w t r => (w, t) :: r.toL
def Ps.ofL : List (Int × Tr) → Ps
  | [] => .nil
  | (w, t) :: r => .cons w t (Ps.ofL r)
theorem Ps.toL_ofL : ∀ l : List (Int × Tr), (Ps.ofL l).toL = l
  | [] => rfl
  | (_, _) :: r => by show _ :: (Ps.ofL r).toL = _; rw [Ps.toL_ofL r]
theorem Ps.ofL_toL : ∀ l : Ps, Ps.ofL l.toL = l
  | .nil => rfl
  | .cons w t r => by show Ps.cons w t (Ps.ofL r.toL) = _; rw [Ps.ofL_toL r]
def Tr.nm : Tr → Str
  | .leaf n _ => n
  | .node _ n _ => n
mutual
def Tr.names : Tr → List Str
  | .leaf n _ => [n]
  | .node _ n ps => n :: ps.names
def Ps.names : Ps → List Str
  | .nil => []
  | .cons _ t r => t.names ++ r.names
end
mutual
def Tr.lev : Tr → Nat
  | .leaf _ _ => 1
  | .node _ _ ps => ps.lev + 1
def Ps.lev : Ps → Nat
  | .nil => 0
  | .cons _ t r => max t.lev r.lev
end
theorem Ps.names_toL : ∀ p : Ps, p.names = p.toL.flatMap (fun x => x.2.names)
  | .nil => rfl
  | .cons w t r => by
    show t.names ++ r.names = ((w, t) :: r.toL).flatMap _
    rw [List.flatMap_cons, Ps.names_toL r]
theorem Ps.lev_toL : ∀ p : Ps, p.lev = p.toL.foldl (fun d x => max d x.2.lev) 0 := by
  have key : ∀ (p : Ps) (d : Nat), max d p.lev = p.toL.foldl (fun d x => max d x.2.lev) d := by
    intro p
    induction p using Ps.rec (motive_1 := fun _ => True) with
    | leaf => trivial
    | node => trivial
    | nil => intro d; show max d 0 = d; omega
    | cons w t r _ ih =>
      intro d
      show max d (max t.lev r.lev) = r.toL.foldl _ (max d t.lev)
      rw [← ih]; omega
  intro p
  rw [← key p 0]; omega
theorem Ps.lev_mem : ∀ {p : Ps} {w : Int} {t : Tr}, (w, t) ∈ p.toL → t.lev ≤ p.lev
  | .nil, _, _, h => by cases h
  | .cons w' t' r, w, t, h => by
    show t.lev ≤ max t'.lev r.lev
    rcases List.mem_cons.mp h with e | h
    · cases e; omega
    · have := Ps.lev_mem (p := r) h
      omega
/-! ## names, steps, weights -/
def nameOk (z : Str) : Bool := decide (1 ≤ z.length) && decide (z.length ≤ 8) && z.cps.toList.all fun c => decide (97 ≤ c) && decide (c ≤ 122)
def numOk (lo hi i : Int) : Bool := decide (lo ≤ i) && decide (i ≤ hi)
def stOk : Option Int → Bool
  | none => true
  | some i => numOk 1 1000 i
def stV : Option Int → V
  | none => .non
  | some i => .int i
def kindS (b : Bool) : Str := if b = true then "row" else "bundle"
/-- as many, as deep, as differently named as a plan's works are -/
def planOk (t : Tr) : Bool := decide (t.names.length ≤ 20) && decide t.names.Nodup && decide (t.lev ≤ 5)
mutual
def Tr.Ok : Tr → Prop
  | .leaf n st => nameOk n = true ∧ stOk st = true
  | .node b n ps => nameOk n = true ∧ ps.toL ≠ [] ∧ ps.toL.length ≤ 6 ∧ ps.Ok ∧ planOk (.node b n ps) = true
def Ps.Ok : Ps → Prop
  | .nil => True
  | .cons w t r => numOk 1 100 w = true ∧ t.Ok ∧ r.Ok
end
theorem Ps.Ok.mem : ∀ {p : Ps} {w : Int} {t : Tr}, p.Ok → (w, t) ∈ p.toL → numOk 1 100 w = true ∧ t.Ok
  | .nil, _, _, _, h => by cases h
  | .cons w' t' r, w, t, o, h => by
    obtain ⟨o1, o2, o3⟩ := o
    rcases List.mem_cons.mp h with e | h
    · cases e; exact ⟨o1, o2⟩
    · exact Ps.Ok.mem o3 h
/-! ## plans as the program keeps them: tuples -/
mutual
def TrAt (H : Hp) : Tr → V → Prop
  | .leaf n st, v => ∃ a e, v = .ref a ∧ H a = some (.tup [.str "leaf", .str n, stV st, .ref e]) ∧ H e = some (.tup [])
  | .node b n ps, v => ∃ a e xs, v = .ref a ∧ H a = some (.tup [.str (kindS b), .str n, .non, .ref e]) ∧ H e = some (.tup xs) ∧ PsAt H ps xs
def PsAt (H : Hp) : Ps → List V → Prop
  | .nil, xs => xs = []
  | .cons w t r, xs => ∃ p v ys, xs = .ref p :: ys ∧ H p = some (.tup [.int w, v]) ∧ TrAt H t v ∧ PsAt H r ys
end
mutual
theorem TrAt.mono {H H' : Hp} (e : Sm H H') : ∀ {t : Tr} {v : V}, TrAt H t v → TrAt H' t v
  | .leaf n st, v, h => by
    obtain ⟨a, b, h1, h2, h3⟩ := h
    exact ⟨a, b, h1, e.tup h2, e.tup h3⟩
  | .node b n ps, v, h => by
    obtain ⟨a, c, xs, h1, h2, h3, h4⟩ := h
    exact ⟨a, c, xs, h1, e.tup h2, e.tup h3, PsAt.mono e h4⟩
theorem PsAt.mono {H H' : Hp} (e : Sm H H') : ∀ {p : Ps} {xs : List V}, PsAt H p xs → PsAt H' p xs
  | .nil, xs, h => h
  | .cons w t r, xs, h => by
    obtain ⟨p, v, ys, h1, h2, h3, h4⟩ := h
    exact ⟨p, v, ys, h1, e.tup h2, TrAt.mono e h3, PsAt.mono e h4⟩
end
theorem PsAt.length {H : Hp} : ∀ {p : Ps} {xs : List V}, PsAt H p xs → xs.length = p.toL.length
  | .nil, xs, h => by cases h; rfl
  | .cons w t r, xs, h => by
    obtain ⟨p, v, ys, rfl, h2, h3, h4⟩ := h
    show ys.length + 1 = r.toL.length + 1
    rw [PsAt.length h4]
theorem PsAt.get {H : Hp} : ∀ {p : Ps} {xs : List V} {i : Nat} {x : V}, PsAt H p xs → xs[i]? = some x → ∃ (w : Int) (t : Tr) (q : Addr) (v : V), p.toL[i]? = some (w, t) ∧ x = V.ref q ∧ H q = some (.tup [.int w, v]) ∧ TrAt H t v
  | .nil, xs, i, x, h, e => by cases h; simp at e
  | .cons w t r, xs, i, x, h, e => by
    obtain ⟨p, v, ys, rfl, h2, h3, h4⟩ := h
    cases i with
    | zero =>
      simp at e
      exact ⟨w, t, p, v, rfl, e.symm, h2, h3⟩
    | succ i =>
      have e' : ys[i]? = some x := by simpa using e
      obtain ⟨w', t', q, v', g1, g2, g3, g4⟩ := PsAt.get h4 e'
      exact ⟨w', t', q, v', by show ((w, t) :: r.toL)[i + 1]? = _; rw [List.getElem?_cons_succ]; exact g1, g2, g3, g4⟩
theorem PsAt.of {H : Hp} : ∀ {l : List (Int × Tr)} {xs : List V}, xs.length = l.length → (∀ (i : Nat) (w : Int) (t : Tr), l[i]? = some (w, t) → ∃ (q : Addr) (v : V), xs[i]? = some (V.ref q) ∧ H q = some (.tup [.int w, v]) ∧ TrAt H t v) → PsAt H (Ps.ofL l) xs
  | [], [], _, _ => rfl
  | [], _ :: _, e, _ => by simp at e
  | _ :: _, [], e, _ => by simp at e
  | (w, t) :: l, x :: xs, e, h => by
    obtain ⟨q, v, h1, h2, h3⟩ := h 0 w t rfl
    simp at h1
    subst h1
    refine ⟨q, v, xs, rfl, h2, h3, PsAt.of (by simpa using e) fun i w' t' z => ?_⟩
    obtain ⟨q', v', g1, g2, g3⟩ := h (i + 1) w' t' (by simpa using z)
    exact ⟨q', v', by simpa using g1, g2, g3⟩
end Hf
set_option Elab.async false
set_option maxRecDepth 100000
set_option maxHeartbeats 4000000
namespace Hf
open PySem L2 PySem.Spec PyProof.Rows
theorem b_int : bootBuiltins "int" = some (.type "int") := by decide +kernel
theorem b_bool : bootBuiltins "bool" = some (.type "bool") := by decide +kernel
theorem b_str : bootBuiltins "str" = some (.type "str") := by decide +kernel
theorem b_tuple : bootBuiltins "tuple" = some (.type "tuple") := by decide +kernel
theorem b_list : bootBuiltins "list" = some (.type "list") := by decide +kernel
theorem b_dict : bootBuiltins "dict" = some (.type "dict") := by decide +kernel
theorem b_isi : bootBuiltins "isinstance" = some (.builtin "isinstance") := by decide +kernel
theorem b_sum : bootBuiltins "sum" = some (.builtin "sum") := by decide +kernel
theorem b_max : bootBuiltins "max" = some (.builtin "max") := by decide +kernel
theorem b_min : bootBuiltins "min" = some (.builtin "min") := by decide +kernel
section
variable {K : PySem.W.Frag}
theorem kit_int_int : PySem.W.kitOne K (.type "int") (.type "int") = some true := kit_ty (by decide +kernel)
theorem kit_int_bool : PySem.W.kitOne K (.type "int") (.type "bool") = some false := kit_ty (by decide +kernel)
theorem kit_tup_tup : PySem.W.kitOne K (.type "tuple") (.type "tuple") = some true := kit_ty (by decide +kernel)
theorem kit_str_str : PySem.W.kitOne K (.type "str") (.type "str") = some true := kit_ty (by decide +kernel)
theorem kit_list_list : PySem.W.kitOne K (.type "list") (.type "list") = some true := kit_ty (by decide +kernel)
theorem kit_dict_dict : PySem.W.kitOne K (.type "dict") (.type "dict") = some true := kit_ty (by decide +kernel)
theorem Sm.seqT {H H' : Hp} {a : Addr} {xs : List V} (e : Sm H H') (h : SqT K H a xs) : SqT K H' a xs := by
  rcases h with (h | ⟨o, h⟩) | h
  · exact .inl (.inl (e.tup h))
  · exact .inl (.inr ⟨o, e.keep _ _ h ntb_frz⟩)
  · exact .inr h
theorem hu64 {A : Around} {k : Nat} (hr : Room k A) : A.units + 64 < cLine := by have := hr.un; omega
theorem intsDp {H : Hp} : ∀ ns : List Int, DpAll K H (ns.map V.int) (ns.map PyData.int)
  | [] => .nil
  | n :: r => .cons (.int n) (intsDp r)
end
theorem ints_lay : ∀ ns : List Int, PyData.canLayAll0 (ns.map PyData.int) = true
  | [] => rfl
  | _ :: r => by show (true && PyData.canLayAll0 (r.map PyData.int)) = true; rw [ints_lay r]; rfl
theorem ints_dep : ∀ ns : List Int, PyData.depthAll (ns.map PyData.int) = 0
  | [] => rfl
  | _ :: r => by show max 0 (PyData.depthAll (r.map PyData.int)) = 0; rw [ints_dep r]; rfl
theorem ints_shaped (ns : List Int) : SeqAt.shaped (.list (ns.map PyData.int)) = true := by
  unfold SeqAt.shaped
  rw [show (PyData.list (ns.map PyData.int)).canLay0 = PyData.canLayAll0 (ns.map PyData.int) from rfl, ints_lay, show (PyData.list (ns.map PyData.int)).depth = PyData.depthAll (ns.map PyData.int) + 1 from rfl, ints_dep]
  rfl
theorem nil_shaped : SeqAt.shaped (.list []) = true := by decide +kernel
/-- the built-in names are the built-ins' -/
structure Bi (mg : Str → Option Value) : Prop where
  isinstance : mg "isinstance" = none
  int : mg "int" = none
  bool : mg "bool" = none
  str : mg "str" = none
  list : mg "list" = none
  tuple : mg "tuple" = none
  dict : mg "dict" = none
  len : mg "len" = none
  all : mg "all" = none
  any : mg "any" = none
  set : mg "set" = none
  max : mg "max" = none
  min : mg "min" = none
  range : mg "range" = none
  zip : mg "zip" = none
  sum : mg "sum" = none
  sorted : mg "sorted" = none
  abs : mg "abs" = none
  enumerate : mg "enumerate" = none
/-- a def of the module's own -/
structure Gf (K : PySem.W.Frag) (mg : Str → Option Value) (x : Str) (st : Stmt) (ps : List Str) (f : Addr) (fd : FuncData) : Prop where
  F : Fun K x x st f fd
  m : mg x = some (.ref f)
  b : Binds K fd ps []
theorem Gf.kp {K : PySem.W.Frag} {mg : Str → Option Value} {x : Str} {st : Stmt} {ps : List Str} {f : Addr} {fd : FuncData} (D : Gf K mg x st ps f fd) : PySem.W.keepIn K (.ref f) = true := D.F.kp
/-- one with defaults -/
structure Gd (K : PySem.W.Frag) (mg : Str → Option Value) (x : Str) (st : Stmt) (dvs : List V) (f : Addr) (fd : FuncData) : Prop where
  F : FunD K x x (defArgs st) (defBody st) (defScope st) dvs [] f fd
  m : mg x = some (.ref f)
theorem Gd.kp {K : PySem.W.Frag} {mg : Str → Option Value} {x : Str} {st : Stmt} {dvs : List V} {f : Addr} {fd : FuncData} (D : Gd K mg x st dvs f fd) : PySem.W.keepIn K (.ref f) = true := D.F.kp
/-- a def whose code object stands at c, its table at T -/
structure Gt (K : PySem.W.Frag) (mg : Str → Option Value) (base : Heap) (x : Str) (st : Stmt) (ps : List Str) (f : Addr) (fd : FuncData) (T : Addr) : Prop where
  g : Gf K mg x st ps f fd
  tab : ∃ c, fd.code = .ref c ∧ GxR.TabB base mg c T
theorem Gt.kp {K : PySem.W.Frag} {mg : Str → Option Value} {base : Heap} {x : Str} {st : Stmt} {ps : List Str} {f : Addr} {fd : FuncData} {T : Addr} (D : Gt K mg base x st ps f fd T) : PySem.W.keepIn K (.ref f) = true := D.g.F.kp
theorem Gt.m {K : PySem.W.Frag} {mg : Str → Option Value} {base : Heap} {x : Str} {st : Stmt} {ps : List Str} {f : Addr} {fd : FuncData} {T : Addr} (D : Gt K mg base x st ps f fd T) : mg x = some (.ref f) := D.g.m
theorem Gt.b {K : PySem.W.Frag} {mg : Str → Option Value} {base : Heap} {x : Str} {st : Stmt} {ps : List Str} {f : Addr} {fd : FuncData} {T : Addr} (D : Gt K mg base x st ps f fd T) : Binds K fd ps [] := D.g.b
theorem Gt.ok {P : Program} {w : World} {K : PySem.W.Frag} {mg : Str → Option Value} {base : Heap} {x : Str} {st : Stmt} {ps N : List Str} {f : Addr} {fd : FuncData} {T : Addr} {k : Nat} {sp : Sp} (D : Gt K mg base x st ps f fd T) (S : FnScope N ps (defScope st)) (len : ∀ vs H Q E, sp vs H Q E → vs.length = ps.length)
    (hbody : ∀ (c : Addr) (A : Around) (outer : List Env) (s : Shared) (H : Hp) (vs : List V) (Q : VK) (E : XK), GxR.TabB base mg c T → Room k (A.deeper (envOfC x (defScope st) s.heap.objs.size f (.ref c))) → sp vs H Q E →
      ∃ t, PSs (cxOf CX0 P w K mg base N x (defScope st) f (.ref c) A outer s H E).nox (defBody st) t ∧ t { nx := fun _ H' => Q .non H', rt := Q } (start N vs) H) : FnOk P w K mg base CX0 (k + 1) f fd ps sp := by
  obtain ⟨c, hc, TB⟩ := D.tab
  obtain ⟨oc, od, kV, doc, pm, an, cdv, ct, osl, rfl, lk, hcd⟩ := D.g.F.ex
  obtain rfl : cdv = .ref c := hc
  refine fn_of lk hcd S len fun A outer s H vs Q E hr h => ?_
  obtain ⟨t, h1, h2⟩ := hbody c A outer s H vs Q E TB hr h
  exact ⟨t, h1.nox, h2⟩
theorem small1000' {n : Nat} (h : n ≤ 1000) : n ≤ sizeLine := Nat.le_trans h (by decide)
/-! ## a sign, so many times -/
def repS (c n : Nat) : Str := ⟨(List.replicate n c).toArray⟩
theorem rep_fold (c : Nat) : ∀ (n : Nat) (a : Array Nat), (List.replicate n (#[c] : Array Nat)).foldl (· ++ ·) a = a ++ (List.replicate n c).toArray
  | 0, a => by simp
  | n + 1, a => by
    rw [List.replicate_succ, List.foldl_cons, rep_fold c n, List.replicate_succ]
    apply Array.ext'
    simp
theorem repS_len (c n : Nat) : (repS c n).length = n := by
  show (List.replicate n c).toArray.size = n
  simp
theorem op_mulS {X : Cx} : OpR X (binaryOp .Mult) (fun x y H Q => ∃ (c : Nat) (n : Int), x = .str ⟨#[c]⟩ ∧ y = .int n ∧ 0 ≤ n ∧ n ≤ 1000 ∧ Q (.str (repS c n.toNat)) H) := by
  intro pins s σ H x y v u Q I rx ry h
  obtain ⟨c, n, rfl, rfl, h0, h1, q⟩ := h
  obtain ⟨t, rfl⟩ := rx
  obtain ⟨t', rfl⟩ := ry
  have l1 : (⟨#[c]⟩ : Str).length = 1 := rfl
  refine PySem.P.mul_str ?_ (fun a _ => ?_) (fun a _ => ?_) ?_
  · rw [decide_eq_false (by omega), decide_eq_false (by omega)]
    rfl
  · rw [l1]
    have : (1 : Int) ≤ (2 ^ 63 - 1) / n := by
      rw [Int.le_ediv_iff_mul_le (by omega)]
      omega
    omega
  · rw [l1]
    unfold PySem.Builtin.Str.tooLong
    have : 1 * n.toNat ≤ sizeLine := Nat.le_trans (show 1 * n.toNat ≤ 1000 by omega) (by decide)
    simp only [decide_eq_false_iff_not]
    omega
  · by_cases c1 : n < 1
    · rw [if_pos c1]
      have e : repS c n.toNat = Str.empty := by
        have : n.toNat = 0 := by omega
        rw [this]
        rfl
      rw [e] at q
      exact ⟨by decide, .str Str.empty, H, I.tok _, ⟨_, rfl⟩, q⟩
    · rw [if_neg c1]
      by_cases c2 : (n == 1 || (⟨#[c]⟩ : Str).length == 0) = true
      · rw [if_pos c2]
        rw [l1] at c2
        have n1 : n = 1 := by simpa using c2
        have e : repS c n.toNat = ⟨#[c]⟩ := by
          rw [n1]
          rfl
        rw [e] at q
        exact ⟨.str _, H, I, ⟨_, rfl⟩, q⟩
      · rw [if_neg c2]
        have e : (⟨(List.replicate n.toNat (⟨#[c]⟩ : Str).cps).foldl (· ++ ·) #[]⟩ : Str) = repS c n.toNat := by
          show (⟨(List.replicate n.toNat (#[c] : Array Nat)).foldl (· ++ ·) #[]⟩ : Str) = _
          rw [rep_fold]
          unfold repS
          simp
        rw [e]
        refine ⟨?_, .str _, H, I.tok _, ⟨_, rfl⟩, q⟩
        rw [repS_len]
        exact small1000' (by omega)
end Hf
set_option Elab.async false
set_option maxRecDepth 100000
set_option maxHeartbeats 4000000
namespace Hf
open PySem L2
def top (i : Nat) : Stmt := PySem.Challenge.pw_howfar_k01_works.main.body.getD i (.Pass ⟨0, 0, 0, 0⟩)
abbrev sIsNumber : Stmt := top 7
theorem scIsNumber : FnScope ["value", "least", "most"] ["value", "least", "most"] (defScope sIsNumber) := ⟨rfl, rfl, rfl, by decide +kernel, rfl, by decide +kernel, by decide +kernel⟩
abbrev sIsName : Stmt := top 8
theorem scIsName : FnScope ["value", "sign"] ["value"] (defScope sIsName) := ⟨rfl, rfl, rfl, by decide +kernel, rfl, by decide +kernel, by decide +kernel⟩
abbrev sIsCount : Stmt := top 9
theorem scIsCount : FnScope ["value"] ["value"] (defScope sIsCount) := ⟨rfl, rfl, rfl, by decide +kernel, rfl, by decide +kernel, by decide +kernel⟩
abbrev sIsSteps : Stmt := top 10
theorem scIsSteps : FnScope ["value"] ["value"] (defScope sIsSteps) := ⟨rfl, rfl, rfl, by decide +kernel, rfl, by decide +kernel, by decide +kernel⟩
abbrev sIsWeight : Stmt := top 11
theorem scIsWeight : FnScope ["value"] ["value"] (defScope sIsWeight) := ⟨rfl, rfl, rfl, by decide +kernel, rfl, by decide +kernel, by decide +kernel⟩
abbrev sNamesIn : Stmt := top 19
theorem scNamesIn : FnScope ["tree", "names", "_", "part"] ["tree"] (defScope sNamesIn) := ⟨rfl, rfl, rfl, by decide +kernel, rfl, by decide +kernel, by decide +kernel⟩
abbrev sLevels : Stmt := top 20
theorem scLevels : FnScope ["tree", "deepest", "_", "part"] ["tree"] (defScope sLevels) := ⟨rfl, rfl, rfl, by decide +kernel, rfl, by decide +kernel, by decide +kernel⟩
abbrev sIsPlan : Stmt := top 21
theorem scIsPlan : FnScope ["tree", "names"] ["tree"] (defScope sIsPlan) := ⟨rfl, rfl, rfl, by decide +kernel, rfl, by decide +kernel, by decide +kernel⟩
abbrev sWorkInit : Stmt := inClass (top 23) 0
abbrev sWorkName : Stmt := inClass (top 23) 1
theorem scWorkName : FnScope ["self"] ["self"] (defScope sWorkName) := ⟨rfl, rfl, rfl, by decide +kernel, rfl, by decide +kernel, by decide +kernel⟩
abbrev sWorkParts : Stmt := inClass (top 23) 2
theorem scWorkParts : FnScope ["self"] ["self"] (defScope sWorkParts) := ⟨rfl, rfl, rfl, by decide +kernel, rfl, by decide +kernel, by decide +kernel⟩
abbrev sWorkSteps : Stmt := inClass (top 23) 3
theorem scWorkSteps : FnScope ["self"] ["self"] (defScope sWorkSteps) := ⟨rfl, rfl, rfl, by decide +kernel, rfl, by decide +kernel, by decide +kernel⟩
abbrev sWorkNames : Stmt := inClass (top 23) 4
theorem scWorkNames : FnScope ["self"] ["self"] (defScope sWorkNames) := ⟨rfl, rfl, rfl, by decide +kernel, rfl, by decide +kernel, by decide +kernel⟩
abbrev sLeafInit : Stmt := inClass (top 24) 0
theorem scLeafInit : FnScope ["self", "name", "steps"] ["self", "name", "steps"] (defScope sLeafInit) := ⟨rfl, rfl, rfl, by decide +kernel, rfl, by decide +kernel, by decide +kernel⟩
abbrev sLeafName : Stmt := inClass (top 24) 1
theorem scLeafName : FnScope ["self"] ["self"] (defScope sLeafName) := ⟨rfl, rfl, rfl, by decide +kernel, rfl, by decide +kernel, by decide +kernel⟩
abbrev sLeafParts : Stmt := inClass (top 24) 2
theorem scLeafParts : FnScope ["self"] ["self"] (defScope sLeafParts) := ⟨rfl, rfl, rfl, by decide +kernel, rfl, by decide +kernel, by decide +kernel⟩
abbrev sLeafSteps : Stmt := inClass (top 24) 3
theorem scLeafSteps : FnScope ["self"] ["self"] (defScope sLeafSteps) := ⟨rfl, rfl, rfl, by decide +kernel, rfl, by decide +kernel, by decide +kernel⟩
abbrev sLeafNames : Stmt := inClass (top 24) 4
theorem scLeafNames : FnScope ["self"] ["self"] (defScope sLeafNames) := ⟨rfl, rfl, rfl, by decide +kernel, rfl, by decide +kernel, by decide +kernel⟩
abbrev sRowInit : Stmt := inClass (top 25) 0
theorem scRowInit : FnScope ["self", "name", "parts"] ["self", "name", "parts"] (defScope sRowInit) := ⟨rfl, rfl, rfl, by decide +kernel, rfl, by decide +kernel, by decide +kernel⟩
abbrev sRowName : Stmt := inClass (top 25) 1
theorem scRowName : FnScope ["self"] ["self"] (defScope sRowName) := ⟨rfl, rfl, rfl, by decide +kernel, rfl, by decide +kernel, by decide +kernel⟩
abbrev sRowParts : Stmt := inClass (top 25) 2
theorem scRowParts : FnScope ["self"] ["self"] (defScope sRowParts) := ⟨rfl, rfl, rfl, by decide +kernel, rfl, by decide +kernel, by decide +kernel⟩
abbrev sRowSteps : Stmt := inClass (top 25) 3
theorem scRowSteps : FnScope ["self"] ["self"] (defScope sRowSteps) := ⟨rfl, rfl, rfl, by decide +kernel, rfl, by decide +kernel, by decide +kernel⟩
abbrev sRowNames : Stmt := inClass (top 25) 4
theorem scRowNames : FnScope ["self"] ["self"] (defScope sRowNames) := ⟨rfl, rfl, rfl, by decide +kernel, rfl, by decide +kernel, by decide +kernel⟩
abbrev sBundleInit : Stmt := inClass (top 26) 0
theorem scBundleInit : FnScope ["self", "name", "parts"] ["self", "name", "parts"] (defScope sBundleInit) := ⟨rfl, rfl, rfl, by decide +kernel, rfl, by decide +kernel, by decide +kernel⟩
abbrev sBundleName : Stmt := inClass (top 26) 1
theorem scBundleName : FnScope ["self"] ["self"] (defScope sBundleName) := ⟨rfl, rfl, rfl, by decide +kernel, rfl, by decide +kernel, by decide +kernel⟩
abbrev sBundleParts : Stmt := inClass (top 26) 2
theorem scBundleParts : FnScope ["self"] ["self"] (defScope sBundleParts) := ⟨rfl, rfl, rfl, by decide +kernel, rfl, by decide +kernel, by decide +kernel⟩
abbrev sBundleSteps : Stmt := inClass (top 26) 3
theorem scBundleSteps : FnScope ["self"] ["self"] (defScope sBundleSteps) := ⟨rfl, rfl, rfl, by decide +kernel, rfl, by decide +kernel, by decide +kernel⟩
abbrev sBundleNames : Stmt := inClass (top 26) 4
theorem scBundleNames : FnScope ["self"] ["self"] (defScope sBundleNames) := ⟨rfl, rfl, rfl, by decide +kernel, rfl, by decide +kernel, by decide +kernel⟩
abbrev sTreeOf : Stmt := top 27
theorem scTreeOf : FnScope ["work"] ["work"] (defScope sTreeOf) := ⟨rfl, rfl, rfl, by decide +kernel, rfl, by decide +kernel, by decide +kernel⟩
abbrev sWorkOf : Stmt := top 28
theorem scWorkOf : FnScope ["tree", "kind", "name", "steps", "_"] ["tree"] (defScope sWorkOf) := ⟨rfl, rfl, rfl, by decide +kernel, rfl, by decide +kernel, by decide +kernel⟩
abbrev sPartsOf : Stmt := top 29
theorem scPartsOf : FnScope ["tree", "weight", "part"] ["tree"] (defScope sPartsOf) := ⟨rfl, rfl, rfl, by decide +kernel, rfl, by decide +kernel, by decide +kernel⟩
abbrev sElderTree : Stmt := top 30
theorem scElderTree : FnScope ["kind", "name", "parts", "tree", "part", "weight", "work"] ["kind", "name", "parts"] (defScope sElderTree) := ⟨rfl, rfl, rfl, by decide +kernel, rfl, by decide +kernel, by decide +kernel⟩
abbrev sIsPart : Stmt := top 31
theorem scIsPart : FnScope ["value"] ["value"] (defScope sIsPart) := ⟨rfl, rfl, rfl, by decide +kernel, rfl, by decide +kernel, by decide +kernel⟩
abbrev sIsWork : Stmt := top 32
theorem scIsWork : FnScope ["value"] ["value"] (defScope sIsWork) := ⟨rfl, rfl, rfl, by decide +kernel, rfl, by decide +kernel, by decide +kernel⟩
abbrev sLawCellAt : Stmt := top 34
theorem scLawCellAt : FnScope ["_law_script", "_law_k"] ["_law_script", "_law_k"] (defScope sLawCellAt) := ⟨rfl, rfl, rfl, by decide +kernel, rfl, by decide +kernel, by decide +kernel⟩
abbrev sLawNumbers : Stmt := top 35
theorem scLawNumbers : FnScope ["_law_cell", "_law_bounds", "_law_rest", "_law_found", "_law_bound"] ["_law_cell", "_law_bounds"] (defScope sLawNumbers) := ⟨rfl, rfl, rfl, by decide +kernel, rfl, by decide +kernel, by decide +kernel⟩
abbrev sLawNames : Stmt := top 36
theorem scLawNames : FnScope ["_law_first"] [] (defScope sLawNames) := ⟨rfl, rfl, rfl, by decide +kernel, rfl, by decide +kernel, by decide +kernel⟩
abbrev sLawWork : Stmt := top 37
theorem scLawWork : FnScope ["_law_digits", "_law_names_here", "_law_deep", "_law_name", "_law_kind", "_law_many", "_law_size", "_law_parts", "_law_k", "_law_weight"] ["_law_digits", "_law_names_here", "_law_deep"] (defScope sLawWork) := ⟨rfl, rfl, rfl, by decide +kernel, rfl, by decide +kernel, by decide +kernel⟩
abbrev sLawPlan : Stmt := top 38
theorem scLawPlan : FnScope ["_law_script", "_law_at", "_law_digits", "_law_k", "_law_start", "_law_names_here"] ["_law_script", "_law_at"] (defScope sLawPlan) := ⟨rfl, rfl, rfl, by decide +kernel, rfl, by decide +kernel, by decide +kernel⟩
abbrev sLawMade : Stmt := top 39
theorem scLawMade : FnScope ["_law_plain", "_law_parts", "_law_weight", "_law_work_here"] ["_law_plain"] (defScope sLawMade) := ⟨rfl, rfl, rfl, by decide +kernel, rfl, by decide +kernel, by decide +kernel⟩
abbrev sLawAll : Stmt := top 40
theorem scLawAll : FnScope ["_law_plain", "_law_found", "_law_weight", "_law_work_here"] ["_law_plain"] (defScope sLawAll) := ⟨rfl, rfl, rfl, by decide +kernel, rfl, by decide +kernel, by decide +kernel⟩
abbrev sLawLeaves : Stmt := top 41
theorem scLawLeaves : FnScope ["_law_plain", "_law_work_here"] ["_law_plain"] (defScope sLawLeaves) := ⟨rfl, rfl, rfl, by decide +kernel, rfl, by decide +kernel, by decide +kernel⟩
abbrev sLawCommon : Stmt := top 42
theorem scLawCommon : FnScope ["_law_one", "_law_other"] ["_law_one", "_law_other"] (defScope sLawCommon) := ⟨rfl, rfl, rfl, by decide +kernel, rfl, by decide +kernel, by decide +kernel⟩
abbrev sLawShare : Stmt := top 43
theorem scLawShare : FnScope ["_law_top", "_law_bottom", "_law_part"] ["_law_top", "_law_bottom"] (defScope sLawShare) := ⟨rfl, rfl, rfl, by decide +kernel, rfl, by decide +kernel, by decide +kernel⟩
abbrev sLawFar : Stmt := top 44
theorem scLawFar : FnScope ["_law_plain", "_law_did", "_law_top", "_law_bottom", "_law_weight", "_law_work_here", "_law_one", "_law_two"] ["_law_plain", "_law_did"] (defScope sLawFar) := ⟨rfl, rfl, rfl, by decide +kernel, rfl, by decide +kernel, by decide +kernel⟩
abbrev sLawRight : Stmt := top 45
theorem scLawRight : FnScope ["_law_work_here", "_law_plain", "_law_sorts", "_law_parts", "_law_part", "_law_other", "_law_one"] ["_law_work_here", "_law_plain"] (defScope sLawRight) := ⟨rfl, rfl, rfl, by decide +kernel, rfl, by decide +kernel, by decide +kernel⟩
abbrev sLawMadeOf : Stmt := top 46
theorem scLawMadeOf : FnScope ["_law_plain", "_law_work_here", "_law_parts", "_law_weight"] ["_law_plain"] (defScope sLawMadeOf) := ⟨rfl, rfl, rfl, by decide +kernel, rfl, by decide +kernel, by decide +kernel⟩
abbrev sLaw : Stmt := top 47
theorem scLaw : FnScope ["_law_script", "_law_plain", "_law_work_here"] ["_law_script"] (defScope sLaw) := ⟨rfl, rfl, rfl, by decide +kernel, rfl, by decide +kernel, by decide +kernel⟩
end Hf
set_option Elab.async false
set_option maxRecDepth 100000
set_option maxHeartbeats 4000000
namespace Hf
open PySem L2 PySem.Spec PyProof.Rows GenW
/-! ## all(e for x in xs), any(..): the element any expression -/
abbrev gEnv (X : Cx) (scope : Scope) (C : Addr) (cd : Value) : Env := genEnv scope (cloFrom X.env.cells scope.names []) C cd builtinsNs X.env
/-- the generator's frame -/
abbrev gex (X : Cx) (s : Shared) (H : Hp) (scope : Scope) (C : Addr) (cd : Value) (A : Around) (fp : List Addr) (pn : List (Addr × Obj)) : Cx :=
  { X with A := A, s_0 := s, H_0 := H, env := gEnv X scope C cd, outer := X.stack, stack := gEnv X scope C cd :: X.stack, ex := fp, fn := fun _ => false, calm := true, pn := pn, xe := fun _ _ => False }
structure GOk (scope : Scope) : Prop where
  co : scope.isCoroutine = false
  cell : ∀ y ∈ scope.names, y.2 ≠ .cell
  dot : scope.names.lookup (".0" : Str) = some NameKind.local
theorem inv_same {Y : Cx} {pins : List (Addr × Obj)} {σ : L2.St} {H : Hp} {s s' : Shared} (I : Inv Y pins σ H s) (h : s'.heap = s.heap) (o : s'.os = s.os) (b : AllBare s'.gens) : Inv Y pins σ H s' :=
  ⟨I.ok, o.trans I.os, b, by rw [h]; exact I.base, by rw [h]; exact I.loc, by rw [h]; exact I.cell, I.free, I.freeC, by rw [h]; exact I.pin, by rw [h]; exact I.hok, I.len⟩
/-- turn i: the iterator stands at i -/
structure GSt (Y : Cx) (fp : List Addr) (tn : Nat → Heap → Prop) (σ0 : L2.St) (i : Nat) (H : Hp) (s : Shared) : Prop where
  inv : Inv Y [] σ0 H s
  tn : tn i s.heap
  fr : ∀ b ∈ fp, H b = none
theorem GSt.same {Y : Cx} {fp : List Addr} {tn : Nat → Heap → Prop} {σ0 : L2.St} {i : Nat} {H : Hp} {s s' : Shared} (G : GSt Y fp tn σ0 i H s) (h : s'.heap = s.heap) (o : s'.os = s.os) (b : AllBare s'.gens) : GSt Y fp tn σ0 i H s' :=
  ⟨inv_same G.inv h o b, by rw [h]; exact G.tn, G.fr⟩
def RAll (Y : Cx) (σ0 : L2.St) (st : Bool) (Q : VK) : GenEnd := fun _ _ r s => ((r = .ok (.ret .none) ∨ r = .ok .next) ∧ ∃ H, Inv Y [] σ0 H s ∧ Q (.bl (!st)) H) ∨ ∃ e, r = .error e ∧ False
def YAll (Y : Cx) (fp : List Addr) (tn : Nat → Heap → Prop) (σ0 : L2.St) (st : Bool) (Q : VK) : Protocol := fun _ _ v s kap =>
  ∃ (b : Bool) (i : Nat) (H : Hp), v = .bool b ∧ GSt Y fp tn σ0 i H s ∧ if b = st then Q (.bl st) H else ∀ s', s'.heap = s.heap → s'.os = s.os → AllBare s'.gens → kap (.send .none) s'
/-- one turn -/
def GTurn (J : It) (g : TG) (te : TE) (vs : List Nat) (σ0 : L2.St) (st : Bool) (W : Nat → Nat → Hp → Prop) (Q : VK) : Prop := ∀ i m H, W i m H →
  (J.stop i H ∧ Q (.bl (!st)) H) ∨ (J.go i H ∧ ∃ N : Hp → Prop, (∀ H', N H' → ∃ m', m' < m ∧ W (i + 1) m' H') ∧ ∀ x H', J.yld i H x H' → g x σ0 H' fun σ2 H2 => wipe σ2 vs = σ0 ∧ te σ2 H2 fun y H3 => ∃ b : Bool, y = .bl b ∧ if b = st then Q (.bl st) H3 else N H3)
theorem seg_gloop {Y : Cx} {tg iter elt : Expr} {scope : Scope} {pos : Pos} {Aw : Around} {it : Addr} {fp : List Addr} {tn : Nat → Heap → Prop} {J : It} {vs : List Nat} {σ0 : L2.St} {g : TG} {te : TE} {st : Bool} {Q : VK} {W : Nat → Nat → Hp → Prop}
    (hA : Aw.over (.compLoop (.GeneratorExp elt [⟨tg, iter, [], 0⟩] scope pos) 0 (.ref it) .none Y.env) [] = Y.A) (hxe : Y.xe = fun _ _ => False) (hc : Y.calm = true) (hco : Y.env.scope.isCoroutine = false)
    (T : Turn Y.prog Y.w Y.K tg J fp it tn) (hg : PG Y tg g) (he : PE Y elt te) (stat : ∀ {H' : Hp}, (∀ b ∈ fp, H' b = none) → ∀ b ∈ fp, FpOk Y [] H' b) (turn : GTurn J g te vs σ0 st W Q) :
    ∀ (n i m : Nat) (H : Hp) (s₀ s : Shared), m + 1 ≤ n → GSt Y fp tn σ0 i H s → W i m H →
      Seg (model Y.prog Y.w) Aw (RAll Y σ0 st Q) (YAll Y fp tn σ0 st Q) n s₀ (.compLoop (.GeneratorExp elt [⟨tg, iter, [], 0⟩] scope pos) 0 (.ref it) .none Y.env)
        ((model Y.prog Y.w).den (.compLoop (.GeneratorExp elt [⟨tg, iter, [], 0⟩] scope pos) 0 (.ref it) .none Y.env)) [] s := by
  have bad : ∀ {P : Prop} (x : Value) (s' : Shared), Y.xe x s' → P := fun x s' e => by rw [hxe] at e; exact e.elim
  intro n
  induction n with
  | zero => intro i m H s₀ s hm; omega
  | succ n ih =>
    intro i m H s₀ s hm G hw
    show Seg _ Aw _ _ _ s₀ _ ((compTurn (.GeneratorExp elt [⟨tg, iter, [], 0⟩] scope pos) 0 (.ref it) .none Y.env).onRaise (leaving Y.env)) [] s
    rw [compTurn_gen, Sem.onRaise_eq_wrap]
    refine seg_bind_wrap (wpAny_standAt ?_)
    rcases turn i m H hw with ⟨stop, q⟩ | ⟨go, N, hN, step⟩
    · refine seg_bind_wrap ?_
      rw [hA]
      refine wpAny_mono (T.done Y rfl rfl rfl hc i [] s σ0 H (fun _ _ => False) G.inv (stat G.fr) G.tn stop) (fun r s4 h4 => ?_) fun _ _ e => e.elim
      obtain ⟨hr, I4⟩ := h4
      subst hr
      exact seg_end (.ok .next) (.inl ⟨.inr rfl, H, I4, q⟩)
    · refine seg_bind_wrap ?_
      rw [hA]
      refine wpAny_mono (T.item Y rfl rfl rfl hc i [] s σ0 H (fun _ _ => False) G.inv (stat G.fr) G.tn go) (fun r s4 h4 => ?_) fun _ _ e => e.elim
      obtain ⟨u, hr, h4⟩ := h4
      subst hr
      refine seg_bind_wrap ?_
      rw [hA]
      refine wpAny_mono h4 (fun _ s5 h5 => ?_) fun _ _ e => e.elim
      obtain ⟨x, H5, I5, r5, y5, st5, fr5⟩ := h5
      have I5' := I5.pinned (stat fr5) (T.obj _ _ st5)
      refine seg_bind_wrap ?_
      rw [hA]
      refine wpAny_mono (hg.run _ s5 σ0 H5 x u _ I5' r5 (step x H5 y5)) (fun _ s6 h6 => ?_) fun x s' e => bad x s' e
      obtain ⟨σ6, H6, I6, hwp, q6⟩ := h6
      refine seg_bind_wrap ?_
      simp only [List.forIn_nil]
      refine wpAny_pure ?_
      simp only [if_true]
      have hy : ∀ v, yieldOut Y.env v = yieldValue v := fun v => by simp only [yieldOut, hco, Bool.false_eq_true, if_false]
      simp only [hy]
      rw [Sem.bind_eq_wrap', Sem.bind_eq_wrap', Sem.wrap_wrap, Sem.wrap_wrap]
      refine seg_wrap ?_
      rw [hA]
      refine wpAny_mono (he.run _ s6 σ6 H6 _ I6 q6) (fun y s7 h7 => ?_) fun x s' e => bad x s' e
      obtain ⟨yv, H7, I7, r7, b, rfl, q7⟩ := h7
      obtain rfl : y = Value.bool b := r7
      have I7' : Inv Y ([] ++ pinsAt fp s5.heap) σ0 H7 s7 := by
        rw [← hwp]
        exact I7.weak (wipe_length _ _) fun j v e => (wipe_some e).1
      have G7 : GSt Y fp tn σ0 (i + 1) H7 s7 := by
        refine ⟨I7'.unpinned, T.keep _ _ _ st5 fun b hb o e => (I7'.pin (b, o) (List.mem_append_right _ (List.mem_append_right _ (mem_pinsAt hb e)))).1, fun b hb => ?_⟩
        obtain ⟨o, e, d⟩ := T.obj _ _ st5 b hb
        exact (I7'.pin (b, o) (List.mem_append_right _ (List.mem_append_right _ (mem_pinsAt hb e)))).2.1
      refine seg_at (seg_yield rfl rfl rfl ⟨b, i + 1, H7, rfl, G7, ?_⟩)
      by_cases hb : b = st
      · rw [if_pos hb] at q7 ⊢
        exact q7
      · rw [if_neg hb] at q7 ⊢
        obtain ⟨m', hm', hw'⟩ := hN _ q7
        intro s' e1 e2 e3
        exact seg_again rfl (ih (i + 1) m' H7 s' s' (by omega) (G7.same e1 e2 e3) hw')
theorem seg_gstart {Y : Cx} {tg iter elt : Expr} {scope : Scope} {pos : Pos} {Aw : Around} {it : Addr} {fp : List Addr} {tn : Nat → Heap → Prop} {J : It} {vs : List Nat} {σ0 : L2.St} {g : TG} {te : TE} {st : Bool} {Q : VK} {W : Nat → Nat → Hp → Prop}
    (hA : Aw.over (.compLoop (.GeneratorExp elt [⟨tg, iter, [], 0⟩] scope pos) 0 (.ref it) .none Y.env) [] = Y.A) (hxe : Y.xe = fun _ _ => False) (hc : Y.calm = true) (hco : Y.env.scope.isCoroutine = false)
    (T : Turn Y.prog Y.w Y.K tg J fp it tn) (hg : PG Y tg g) (he : PE Y elt te) (stat : ∀ {H' : Hp}, (∀ b ∈ fp, H' b = none) → ∀ b ∈ fp, FpOk Y [] H' b) (turn : GTurn J g te vs σ0 st W Q)
    (n m : Nat) (H : Hp) (s₀ s : Shared) (hm : m + 1 ≤ n) (G : GSt Y fp tn σ0 0 H s) (hw : W 0 m H) :
      Seg (model Y.prog Y.w) Aw (RAll Y σ0 st Q) (YAll Y fp tn σ0 st Q) n s₀ (.compStart (.GeneratorExp elt [⟨tg, iter, [], 0⟩] scope pos) 0 (.ref it) .none Y.env)
        ((model Y.prog Y.w).den (.compStart (.GeneratorExp elt [⟨tg, iter, [], 0⟩] scope pos) 0 (.ref it) .none Y.env)) [] s := by
  have loop := seg_gloop (iter := iter) (scope := scope) (pos := pos) hA hxe hc hco T hg he stat turn n 0 m H s₀ s hm G hw
  show Seg _ Aw _ _ _ s₀ _ ((compStart (.GeneratorExp elt [⟨tg, iter, [], 0⟩] scope pos) 0 (.ref it) .none Y.env).onRaise (leaving Y.env)) [] s
  unfold compStart
  rw [Sem.onRaise_eq_wrap]
  show Seg _ Aw _ _ _ s₀ _ ((ask >>= _).wrap _ _ _ _) [] s
  refine seg_bind_wrap (wpAny_askSetting ?_)
  split
  · exact seg_again rfl loop
  · first
      | exact seg_bind_wrap (wpAny_rule (seg_bind_wrap (wpAny_standAt (seg_bind_wrap (T.self _ 0 s _ _ G.tn (seg_again rfl loop))))))
      | (refine seg_bind_wrap (wpAny_rule ?_); show Seg _ Aw _ _ _ s₀ _ ((standAt iter.pos >>= _).wrap _ _ _ _) [] s; exact seg_bind_wrap (wpAny_standAt (seg_bind_wrap (T.self _ 0 s _ _ G.tn (seg_again rfl loop)))))
end Hf
set_option Elab.async false
set_option maxRecDepth 100000
set_option maxHeartbeats 4000000
namespace Hf
open PySem L2 PySem.Spec PyProof.Rows GenW
section
variable {Y : Cx} {fp : List Addr} {tn : Nat → Heap → Prop} {σ0 : L2.St} {st : Bool} {Q : VK} {a : Addr} {g : Nat} {go : Obj}
/-- the generator sleeps, or has not begun -/
structure Slp (Y : Cx) (fp : List Addr) (tn : Nat → Heap → Prop) (σ0 : L2.St) (st : Bool) (Q : VK) (a : Addr) (g : Nat) (Aw : Around) (n : Nat) (s : Shared) : Prop where
  gen : s.heap.IsGen a g
  lim : s.heap.NoLimit
  goes : ∃ gs, s.gens[g]? = some gs ∧ gs.Goes (model Y.prog Y.w) Aw (RAll Y σ0 st Q) (YAll Y fp tn σ0 st Q) n (.send .none) (s.setGen g .running)
theorem next_all {B : Around} {n : Nat} {s : Shared} {Q' : Option Value → Shared → Prop} {E : Value → Shared → Prop} (hh : B.handled = none) (hd : B.depth < recursionLimit) (hpn : Y.pn = [(a, go)]) (hgo : ∀ h : Heap, h.get? a = some go → h.IsGen a g) (S : Slp Y fp tn σ0 st Q a g B.in1 n s)
    (hY : ∀ (b : Bool) (i : Nat) (H : Hp) (s' : Shared), GSt Y fp tn σ0 i H s' → (if b = st then Q (.bl st) H else ∃ m, n = m + 1 ∧ Slp Y fp tn σ0 st Q a g B.in1 m s') → Q' (some (.bool b)) s')
    (hP : ∀ (H : Hp) (s' : Shared), Inv Y [] σ0 H s' → Q (.bl (!st)) H → Q' none s') : wpAny (model Y.prog Y.w) B (pyNext (.ref a)) Q' E s := by
  obtain ⟨hg, hl, gs, hgs, hgo'⟩ := S
  have hgl : g < s.gens.size := (Array.getElem?_eq_some_iff.mp hgs).1
  refine wpAny_gsz (n := g + 1) hgl (next_genG (Er := fun _ _ => False) (F := fun _ _ s₁ => ∃ H, Inv Y [] σ0 H s₁ ∧ Q (.bl (!st)) H) hh hl hd hg hgs hgo' (fun v s₁ gs' hbare hv => ?_) (fun s₁ hp h' hk => ?_) fun e s₁ he => he.elim)
  · intro hsz
    obtain ⟨b, i, H, rfl, G, q⟩ := hv
    have G' : GSt Y fp tn σ0 i H (s₁.setGen g gs') := G.same rfl rfl (allBare_setGen G.inv.bare hbare)
    refine hY b i H _ G' ?_
    by_cases hb : b = st
    · rw [if_pos hb] at q ⊢
      exact q
    · rw [if_neg hb] at q ⊢
      have hsz1 : g < s₁.gens.size := by
        have q : (s₁.setGen g gs').gens.size = s₁.gens.size := setGen_size _ _ _
        have hsz' : g + 1 ≤ (s₁.setGen g gs').gens.size := hsz
        omega
      cases n with
      | zero => exact (q s₁ rfl rfl G.inv.bare).elim
      | succ m =>
        refine ⟨m, rfl, hgo _ (G'.inv.pin (a, go) (List.mem_append_left _ (by rw [hpn]; exact List.mem_singleton.mpr rfl))).1, G'.inv.nolimit, gs', setGen_at hsz1, ?_⟩
        exact q _ rfl rfl (allBare_setGen (s := s₁.setGen g gs') (allBare_setGen G.inv.bare hbare) rfl)
  · intro _
    obtain ⟨H, I, q⟩ := hp
    refine hP H _ ?_ q
    have I1 : Inv Y [] σ0 H (s₁.setGen g .finished) := inv_same I rfl rfl (allBare_setGen I.bare rfl)
    exact I1.kept (t' := (s₁.setGen g .finished).toks) hk
theorem all_loop {A : Around} {R : Result → Shared → Prop} (hh : A.handled = none) (hd : A.depth < recursionLimit) (hpn : Y.pn = [(a, go)]) (hgo : ∀ h : Heap, h.get? a = some go → h.IsGen a g)
    (hR : ∀ (b : Bool) (H : Hp) (s' : Shared), Inv Y [] σ0 H s' → Q (.bl b) H → R (.ok (.ret (.bool b))) s') :
    ∀ (n : Nat) (s : Shared), Slp Y fp tn σ0 false Q a g A.in1.in1 n s → codeAny (model Y.prog Y.w) A (.builtin "all.loop" ⟨[.ref a], []⟩) R s := by
  intro n
  induction n with
  | zero =>
    intro s S
    refine codeAny_builtin F.entry_all_loop ?_
    rw [Around.under_plainId F.plain_all_loop _]
    show wpAny _ A.in1 (pyNext (.ref a) >>= _) _ _ s
    refine wpAny_bind (next_all (B := A.in1) hh hd hpn hgo S (fun b i H s' G q => ?_) fun H s' I q => ?_)
    · by_cases hb : b = false
      · rw [if_pos hb] at q
        subst hb
        refine wpAny_bind (wpAny_holding (wpAny_truthy_bool ?_))
        refine wpAny_bind (wpAny_letGo ?_)
        simp only [Bool.false_eq_true, if_false]
        exact wpAny_bind (wpAny_rule (wpAny_pure (hR false H s' G.inv q)))
      · rw [if_neg hb] at q
        obtain ⟨m, e, _⟩ := q
        cases e
    · exact wpAny_bind (wpAny_rule (wpAny_pure (hR true H s' I q)))
  | succ n ih =>
    intro s S
    refine codeAny_builtin F.entry_all_loop ?_
    rw [Around.under_plainId F.plain_all_loop _]
    show wpAny _ A.in1 (pyNext (.ref a) >>= _) _ _ s
    refine wpAny_bind (next_all (B := A.in1) hh hd hpn hgo S (fun b i H s' G q => ?_) fun H s' I q => ?_)
    · refine wpAny_bind (wpAny_holding (wpAny_truthy_bool ?_))
      refine wpAny_bind (wpAny_letGo ?_)
      cases b with
      | false =>
        rw [if_pos rfl] at q
        simp only [Bool.false_eq_true, if_false]
        exact wpAny_bind (wpAny_rule (wpAny_pure (hR false H s' G.inv q)))
      | true =>
        rw [if_neg (by decide)] at q
        obtain ⟨m, e, S'⟩ := q
        cases e
        simp only [if_true]
        exact wpAny_pure ⟨plainId_quiet F.plain_all_loop _, ih _ S'⟩
    · exact wpAny_bind (wpAny_rule (wpAny_pure (hR true H s' I q)))
theorem any_loop {A : Around} {R : Result → Shared → Prop} (hh : A.handled = none) (hd : A.depth < recursionLimit) (hpn : Y.pn = [(a, go)]) (hgo : ∀ h : Heap, h.get? a = some go → h.IsGen a g)
    (hR : ∀ (b : Bool) (H : Hp) (s' : Shared), Inv Y [] σ0 H s' → Q (.bl b) H → R (.ok (.ret (.bool b))) s') :
    ∀ (n : Nat) (s : Shared), Slp Y fp tn σ0 true Q a g A.in1.in1 n s → codeAny (model Y.prog Y.w) A (.builtin "any.loop" ⟨[.ref a], []⟩) R s := by
  intro n
  induction n with
  | zero =>
    intro s S
    refine codeAny_builtin F.entry_any_loop ?_
    rw [Around.under_plainId F.plain_any_loop _]
    show wpAny _ A.in1 (pyNext (.ref a) >>= _) _ _ s
    refine wpAny_bind (next_all (B := A.in1) hh hd hpn hgo S (fun b i H s' G q => ?_) fun H s' I q => ?_)
    · by_cases hb : b = true
      · rw [if_pos hb] at q
        subst hb
        refine wpAny_bind (wpAny_holding (wpAny_truthy_bool ?_))
        refine wpAny_bind (wpAny_letGo ?_)
        simp only [if_true]
        exact wpAny_bind (wpAny_rule (wpAny_pure (hR true H s' G.inv q)))
      · rw [if_neg hb] at q
        obtain ⟨m, e, _⟩ := q
        cases e
    · exact wpAny_bind (wpAny_rule (wpAny_pure (hR false H s' I q)))
  | succ n ih =>
    intro s S
    refine codeAny_builtin F.entry_any_loop ?_
    rw [Around.under_plainId F.plain_any_loop _]
    show wpAny _ A.in1 (pyNext (.ref a) >>= _) _ _ s
    refine wpAny_bind (next_all (B := A.in1) hh hd hpn hgo S (fun b i H s' G q => ?_) fun H s' I q => ?_)
    · refine wpAny_bind (wpAny_holding (wpAny_truthy_bool ?_))
      refine wpAny_bind (wpAny_letGo ?_)
      cases b with
      | true =>
        rw [if_pos rfl] at q
        simp only [if_true]
        exact wpAny_bind (wpAny_rule (wpAny_pure (hR true H s' G.inv q)))
      | false =>
        rw [if_neg (by decide)] at q
        obtain ⟨m, e, S'⟩ := q
        cases e
        simp only [Bool.false_eq_true, if_false]
        exact wpAny_pure ⟨plainId_quiet F.plain_any_loop _, ih _ S'⟩
    · exact wpAny_bind (wpAny_rule (wpAny_pure (hR false H s' I q)))
end
end Hf
set_option Elab.async false
set_option maxRecDepth 100000
set_option maxHeartbeats 4000000
namespace Hf
open PySem L2 PySem.Spec PyProof.Rows GenW NdefX
section
variable {X : Cx} {pins : List (Addr × Obj)} {σ : L2.St} {H H5 : Hp} {s s5 : Shared} {scope : Scope} {own : List (Str × Nat)} {fp : List Addr} {pn : List (Addr × Obj)} {C : Addr} {cd : Value} {A : Around}
theorem gfree (I : Inv X pins σ H s) (ok : BlkOk X.N X.env.scope scope own) : ∀ y ∈ scope.names, y.2 = .free → ∃ c, X.env.cells.lookup y.1 = some c := fun y hy e => by
  rcases ok.free y hy e with k | k
  · exact I.ok.has _ (.inl k)
  · exact I.ok.has _ (.inr k)
theorem gex_start (I : Inv X pins σ H s) (I5 : Inv X pins σ H5 s5) (ok : BlkOk X.N X.env.scope scope own) (go : GOk scope) (hN : X.N.Nodup) (hfp : ∀ b ∈ fp, FpOk X pins H b ∧ b < s.heap.objs.size) (hC : s.heap.objs.size ≤ C) (hAh : A.handled = none)
    (hAf : A.frames = some (gEnv X scope C cd :: X.stack)) (un : Un (frs X.stack) fp H H5 s.heap s5.heap) (os : s5.os = s.os) (nsC : ∃ m, s5.heap.Ns C m)
    (hpn : ∀ p ∈ pn, s5.heap.get? p.1 = some p.2 ∧ H5 p.1 = none ∧ p.1 ≠ C ∧ p.1 ∉ frs X.stack ∧ ∀ v, p.2.data ≠ .cell v) (hC5 : H5 C = none) :
    Inv (gex X s H scope C cd A fp pn) [] (wipe σ (own.map (·.2))) H5 s5 := by
  have hfree := gfree I ok
  have cm : ∀ {y c}, (gEnv X scope C cd).cells.lookup y = some c → X.env.cells.lookup y = some c := fun {y c} e => clo_cm hfree e
  have nst : ∀ b ∈ fp, b ∉ frs X.stack := fun b hb z => by
    obtain ⟨⟨_, f1, f2, _⟩, _⟩ := hfp b hb
    rcases List.mem_cons.mp (I.stkSub b z) with z | z
    · exact f1 z
    · exact f2 z
  have okY : (gex X s H scope C cd A fp pn).Ok := by
    refine ⟨I.ok.mod, ok.kind, I.ok.glob, rfl, hC, fun y z c e1 e2 => I.ok.inj y z c (cm e1) (cm e2), fun y hy => ?_, fun y c z _ => (by cases z), fun _ => hAh, hAf, .inr ⟨rfl, rfl⟩, fun b hb => ⟨Nat.ne_of_lt (Nat.lt_of_lt_of_le (hfp b hb).2 hC), fun y c e z => (hfp b hb).1.2.2.2.2.1 y c (cm e) z⟩,
      I.bs, Nat.le_trans I.ok.bsz I.sz, fun b o e hb => ?_, nst, I.stack, I.stkFree⟩
    · have hy : scope.names.lookup y = some .cell ∨ scope.names.lookup y = some .free := hy
      rcases hy with hy | hy
      · exact absurd rfl (go.cell _ (PySem.mem_of_lookup hy))
      · obtain ⟨c, hc⟩ := hfree _ (PySem.mem_of_lookup hy) rfl
        exact ⟨c, clo_has hfree (PySem.mem_of_lookup hy) hc⟩
    · rcases (hfp b hb).1.2.2.2.1 with z | z
      · exact I.ok.noex b o e z
      · have h1 := Heap.lt_size e
        exact absurd (Nat.lt_of_lt_of_le h1 (Nat.le_trans I.ok.bsz z)) (Nat.lt_irrefl _)
  obtain ⟨m, hm⟩ := nsC
  refine ⟨okY, os, I5.bare, un, ⟨m, hm, fun i x v e1 e2 e3 => ?_⟩, fun x c e => I5.cell x c (cm e), hC5, fun x c e => I5.freeC x c (cm e), fun p hp => ?_, I5.hok, ?_⟩
  · obtain ⟨e4, ni⟩ := wipe_some e2
    have e3 : Vis scope x := e3
    rcases e3 with k | k | k
    · exfalso
      rcases ok.own _ (PySem.mem_of_lookup k) (.inl rfl) with q | q
      · obtain ⟨p, hp, ep⟩ := List.mem_map.mp q
        have ep : p.1 = x := ep
        have e5 := ok.ix p hp
        rw [ep] at e5
        exact ni (by rw [nodup_ix hN e1 e5]; exact List.mem_map_of_mem hp)
      · exact q (List.mem_of_getElem? e1)
    · exact absurd rfl (go.cell _ (PySem.mem_of_lookup k))
    · have hx := ok.free _ (PySem.mem_of_lookup k) rfl
      obtain ⟨m5, _, l5⟩ := I5.loc
      obtain ⟨u, ru, lk⟩ := l5 i x v e1 e4 (hx.elim (fun z => .inr (.inl z)) fun z => .inr (.inr z))
      refine ⟨u, ru, .inr ⟨.inr k, ?_⟩⟩
      rcases lk with ⟨z, _⟩ | ⟨_, c, hc, hcell⟩
      · have z : X.env.scope.names.lookup x = some .local := z
        have hx : X.env.scope.names.lookup x = some .cell ∨ X.env.scope.names.lookup x = some .free := hx
        rw [z] at hx
        rcases hx with q | q <;> cases q
      · exact ⟨c, clo_has hfree (PySem.mem_of_lookup k) hc, hcell⟩
  · rcases List.mem_append.mp hp with z | z
    · exact hpn p z
    · cases z
  · rw [wipe_length]
    exact I5.len
theorem gex_stat (I : Inv X pins σ H s) (ok : BlkOk X.N X.env.scope scope own) (hfp : ∀ b ∈ fp, FpOk X pins H b ∧ b < s.heap.objs.size) (hC : s.heap.objs.size ≤ C) (hpn : ∀ p ∈ pn, s.heap.objs.size ≤ p.1) {H' : Hp} (hn : ∀ b ∈ fp, H' b = none) :
    ∀ b ∈ fp, FpOk (gex X s H scope C cd A fp pn) [] H' b := fun b hb => by
  obtain ⟨⟨_, f1, f2, _, f4, _⟩, lt⟩ := hfp b hb
  refine ⟨hn b hb, Nat.ne_of_lt (Nat.lt_of_lt_of_le lt hC), fun z => ?_, .inl hb, fun x c e z => f4 x c (clo_cm (gfree I ok) e) z, fun p hp z => ?_⟩
  · rcases List.mem_cons.mp (I.stkSub b z) with z | z
    · exact f1 z
    · exact f2 z
  · rcases List.mem_append.mp hp with q | q
    · have := hpn p q
      rw [z] at this
      exact absurd (Nat.lt_of_lt_of_le lt this) (Nat.lt_irrefl _)
    · cases q
abbrev tblO' (ps : Array Value) : Obj := { cls := .none, data := .fields ps }
theorem code_step0 {c T : Addr} {ps : Array Value} {scope : Scope} {gpos : Pos} {q : Str} {R : Value → Addr → Shared → Prop} {E : Value → Shared → Prop} (TB : GxR.TabB X.base X.mg c T) (hcode : X.env.code = .ref c) (I : Inv X pins σ H s)
    (hT : H T = some (.tbl ps)) (tr : TriplesOk ps.toList)
    (k : ∀ (cd : Value) (g : Heap) (tk : Nat) (qs : Array Value), Heap.ExtBut T s.heap g → s.heap.objs.size ≤ g.objs.size → g.get? T = some (tblO' qs) → (∃ more, qs = ps ++ more) → TriplesOk qs.toList → R cd builtinsNs { s with heap := g, toks := tk }) :
    wpAny (model X.prog X.w) X.A (genexprCode X.env gpos q scope) (fun cd s3 => wpAny (model X.prog X.w) X.A (builtinsFor X.env.globals X.env.builtins) (fun bi s4 => R cd bi s4) E s3) E s := by
  have hTs : s.heap.get? T = some (tblO' ps) := I.hok T _ hT
  have CH := TB.code.keeps I.bk
  obtain ⟨bm, oo, b1, b2, b3, b4, b5, b6, b7, b8⟩ := TB.bm
  have fin : ∀ (cd : Value) (g : Heap) (tk : Nat) (qs : Array Value), Heap.ExtBut T s.heap g → s.heap.objs.size ≤ g.objs.size → g.get? T = some (tblO' qs) → (∃ more, qs = ps ++ more) → TriplesOk qs.toList →
      wpAny (model X.prog X.w) X.A (builtinsFor X.env.globals X.env.builtins) (fun bi s4 => R cd bi s4) E { s with heap := g, toks := tk } := fun cd g tk qs ex sz e more tq => by
    have gl : g.Ns X.env.globals X.mg := by
      rw [I.ok.glob]
      exact (I.mod.glob.keeps I.bk).extBut ex TB.gP
    exact wpAny_builtinsFor (m := X.mg) gl b1 b2 (ex bm oo b4 (I.bk _ _ b5)) b6 b7 b8 (k cd g tk qs ex sz e more tq)
  cases found : codeAmong gpos ps.toList with
  | some cv => exact wpAny_genexprCode_hit hcode (CH.code hTs tr) found (fin cv _ s.toks ps (Heap.ExtBut.refl _ _) (Nat.le_refl _) hTs ⟨#[], by simp⟩ tr)
  | none =>
    refine wpAny_genexprCodeX hcode (CH.code hTs tr) (CH.tab hTs) found fun c2 g tk ex g1 g2 isC _ isT _ => ?_
    obtain ⟨_, _, _, _, _, _, _, _, _, _, _, _, _, _, _, _, _, _, _, tq, _⟩ := isC
    exact fin (.ref c2) g tk _ ex (Nat.le_trans g1 (Nat.le_of_lt g2)) isT.2 ⟨_, rfl⟩ tq
def tGen (T : Addr) (st : Bool) (wi : TI) (g : TG) (te : TE) (vs : List Nat) : TE := fun σ H Q => wi σ H fun J H1 => GxR.TabG H1 T ∧ ∃ W : Nat → Nat → Hp → Prop, (∀ H2, GxR.Tabbed T H1 H2 → ∃ m, W 0 m H2) ∧ GTurn J g te vs (wipe σ vs) st W Q
/-- what the two share: the generator made, ready to be walked -/
theorem gen_any {c T : Addr} {elt iter tg : Expr} {gpos : Pos} {wi : TI} {g : TG} {te : TE} {k : Nat} {st : Bool} {Q : VK} {Q' : Value → Shared → Prop} (hr : Room (k + 1) X.A) (TB : GxR.TabB X.base X.mg c T) (hcode : X.env.code = .ref c) (hN : X.N.Nodup) (ok : BlkOk X.N X.env.scope scope own) (go : GOk scope)
    (hi : PI X tg iter wi) (hg : ∀ (s : Shared) (H : Hp) (C : Addr) (cd : Value) (A : Around) (fp : List Addr) (pn : List (Addr × Obj)), Room k A → PG (gex X s H scope C cd A fp pn) tg g)
    (he : ∀ (s : Shared) (H : Hp) (C : Addr) (cd : Value) (A : Around) (fp : List Addr) (pn : List (Addr × Obj)), Room k A → PE (gex X s H scope C cd A fp pn) elt te) (hs : ∀ v, genFold iter X.env v = pure v) (I : Inv X pins σ H s) (h : tGen T st wi g te (own.map (·.2)) σ H Q)
    (hQ : ∀ (Y : Cx) (fp : List Addr) (tn : Nat → Heap → Prop) (a : Addr) (gg : Nat) (o : Obj) (n : Nat) (s5 : Shared), Y.prog = X.prog → Y.w = X.w → Y.pn = [(a, o)] → (∀ h : Heap, h.get? a = some o → h.IsGen a gg) → Slp Y fp tn (wipe σ (own.map (·.2))) st Q a gg X.A.in1.in1 n s5 →
      (∀ (H' : Hp) (s' : Shared), Inv Y [] (wipe σ (own.map (·.2))) H' s' → Inv X pins σ H' s') → Q' (.ref a) s5) :
    wpAny (model X.prog X.w) X.A (eval (.GeneratorExp elt [⟨tg, iter, [], 0⟩] scope gpos) X.env) Q' X.xe s := by
  refine wpAny_GeneratorExp_make go.co (closure_ok (gfree I ok)) go.cell go.dot ok.kind (by have := hr.dp; omega) ?_ hs
  refine thn (hi.run pins s σ H _ I h) fun v s1 h1 => thn h1 fun itv s2 h2 => ?_
  obtain ⟨it, fp, tn, J, H2, rfl, I2, Tn, st2, f2, ⟨ps, hT, tr⟩, W, w0, turn⟩ := h2
  refine ⟨I2.nolimit, code_step0 (q := X.env.qual ++ "<genexpr>") TB hcode I2 hT tr fun cd g4 tk qs ex sz eT more tq => ?_⟩
  intro h' hn' hs'
  replace hs' : Heap.SameBut g4.objs.size (g4.push { cls := .type "frame", data := .dict #[] }) h' := hs'
  have hsz : h'.objs.size = g4.objs.size + 1 := by rw [hs'.1, Heap.size_push]
  obtain ⟨more, em⟩ := more
  have up4 : ∀ b o, g4.get? b = some o → h'.get? b = some o := fun b o e => hs'.extBut b o (Nat.ne_of_lt (Heap.lt_size e)) (Heap.get?_push_of_some _ e)
  have up5 : ∀ {ob : Obj} b o, g4.get? b = some o → (h'.push ob).get? b = some o := fun {ob} b o e => Heap.get?_push_of_some _ (up4 b o e)
  have old : ∀ {ob : Obj} b o, b ≠ T → s2.heap.get? b = some o → (h'.push ob).get? b = some o := fun {ob} b o hb e => up5 b o (ex b o hb e)
  have nT : ∀ b, H2 b = none → b ≠ T := fun b e z => by rw [z, hT] at e; cases e
  have sz5 : s2.heap.objs.size ≤ h'.objs.size := by omega
  -- the generator's object
  have main : ∀ (go5 : Obj) (t5 : Nat) (nm qn : Value), go5.cls = .type "generator" → go5.data = .fields #[.int s2.gens.size 0, nm, qn] → go5.slots = #[] → (∀ h : Heap, (h.push go5).get? h.objs.size = some go5) →
      Q' (.ref h'.objs.size) { s2 with gens := s2.gens.push (.fresh (.compStart (.GeneratorExp elt [⟨tg, iter, [], 0⟩] scope gpos) 0 (.ref it) .none (genEnv scope (cloFrom X.env.cells scope.names []) g4.objs.size cd builtinsNs X.env))), toks := t5, heap := h'.push go5 } := by
    intro go5 t5 nm qn hc5 hd5 hsl5 hp5
    have hgen : ∀ h : Heap, h.get? h'.objs.size = some go5 → h.IsGen h'.objs.size s2.gens.size := fun h e => ⟨go5, nm, qn, e, hc5, hd5, hsl5⟩
    generalize hs5 : ({ s2 with gens := s2.gens.push (.fresh (.compStart (.GeneratorExp elt [⟨tg, iter, [], 0⟩] scope gpos) 0 (.ref it) .none (genEnv scope (cloFrom X.env.cells scope.names []) g4.objs.size cd builtinsNs X.env))), toks := t5, heap := h'.push go5 } : Shared) = s5
    have h5 : s5.heap = h'.push go5 := by rw [← hs5]
    have o5 : s5.os = s2.os := by rw [← hs5]
    have I5 : Inv X pins σ (upd H2 T (.tbl (ps ++ more))) s5 := by
      rw [← hs5]
      exact GxR.inv_tab (d' := s2.drawn) I2 hT (fun b o hb e => old b o hb e) (by rw [← em]; exact up5 T _ eT) (I2.bare.push rfl)
    have tabd : GxR.Tabbed T H2 (upd H2 T (.tbl (ps ++ more))) := ⟨⟨ps ++ more, upd_same, by rw [← em]; exact tq⟩, fun b hb => upd_ne hb⟩
    obtain ⟨m0, w0'⟩ := w0 _ tabd
    have hfp : ∀ b ∈ fp, FpOk X pins H2 b ∧ b < s2.heap.objs.size := fun b hb => ⟨f2 b hb, by
      obtain ⟨o, e, _⟩ := Tn.obj _ _ st2 b hb
      exact Heap.lt_size e⟩
    have ntbl : ∀ b u, H2 b = some u → (∀ q, u ≠ .tbl q) → b ≠ T := fun b u e q z => by
      rw [z, hT] at e
      exact q ps (Option.some.inj e).symm
    have un : Un (frs X.stack) fp H2 (upd H2 T (.tbl (ps ++ more))) s2.heap s5.heap := by
      rw [h5]
      refine ⟨fun b o e n _ _ => old b o (nT b n) e, fun b o e n _ _ => ⟨o.slots, old b o (nT b n) e⟩, fun b o e n _ => by rw [upd_ne (nT b n)]; exact n, fun b o e _ => ?_, fun b xs e => by rw [upd_ne (ntbl b _ e fun q z => by cases z)]; exact e, fun b o u e => by rw [upd_ne (ntbl b _ e fun q z => by cases z)]; exact e, fun b qs2 e => ?_⟩
      · by_cases hb : b = T
        · rw [hb]
          exact ⟨_, up5 T _ eT⟩
        · exact ⟨o, old b o hb e⟩
      · by_cases hb : b = T
        · rw [hb, hT] at e
          cases e
          rw [hb, upd_same]
          exact ⟨more, rfl⟩
        · rw [upd_ne hb, e]
          exact ⟨#[], by simp⟩
    have fresh5 : ∀ b, s2.heap.objs.size ≤ b → upd H2 T (.tbl (ps ++ more)) b = none := fun b hb => by
      have n := I2.hok.fresh hb
      rw [upd_ne (nT b n)]
      exact n
    have Aw : (X.A.in1.in1.over (.compLoop (.GeneratorExp elt [⟨tg, iter, [], 0⟩] scope gpos) 0 (.ref it) .none (gEnv X scope g4.objs.size cd)) []).frames = some (gEnv X scope g4.objs.size cd :: X.stack) := by
      have e : X.A.in1.in1.frames = some X.stack := I2.ok.frames
      show pushEnvs [gEnv X scope g4.objs.size cd] (pushEnvs [] X.A.in1.in1.frames) = _
      rw [e]
      rfl
    have rA : Room k (X.A.in1.in1.over (.compLoop (.GeneratorExp elt [⟨tg, iter, [], 0⟩] scope gpos) 0 (.ref it) .none (gEnv X scope g4.objs.size cd)) []) := by
      refine ⟨hr.hd, ?_, ?_⟩
      · have := hr.dp
        show X.A.depth + 0 + 1 + 3 * k + 5 < _
        omega
      · have := hr.un
        show X.A.units + 1 + 1 + 0 + 3 + 16 * k + 200 < _
        omega
    have pnh : ∀ p ∈ [(h'.objs.size, go5)], s2.heap.objs.size ≤ p.1 := fun p hp => by
      rw [List.mem_singleton.mp hp]
      exact sz5
    have J5 : Inv (gex X s2 H2 scope g4.objs.size cd (X.A.in1.in1.over (.compLoop (.GeneratorExp elt [⟨tg, iter, [], 0⟩] scope gpos) 0 (.ref it) .none (gEnv X scope g4.objs.size cd)) []) fp [(h'.objs.size, go5)]) [] (wipe σ (own.map (·.2))) (upd H2 T (.tbl (ps ++ more))) s5 := by
      refine gex_start I2 I5 ok go hN hfp sz hr.hd Aw un o5 ⟨_, by rw [h5]; exact hn'.push _⟩ (fun p hp => ?_) (fresh5 _ sz)
      rw [List.mem_singleton.mp hp]
      refine ⟨by rw [h5]; exact hp5 _, fresh5 _ sz5, by show h'.objs.size ≠ g4.objs.size; omega, fun z => ?_, fun v z => by rw [hd5] at z; cases z⟩
      have hz := I2.stkSub _ z
      rcases List.mem_cons.mp hz with z | z
      · have := I2.lt
        rw [← z] at this
        exact absurd (Nat.lt_of_lt_of_le this sz5) (Nat.lt_irrefl _)
      · exact I2.nofs sz5 z
    have G5 : GSt (gex X s2 H2 scope g4.objs.size cd (X.A.in1.in1.over (.compLoop (.GeneratorExp elt [⟨tg, iter, [], 0⟩] scope gpos) 0 (.ref it) .none (gEnv X scope g4.objs.size cd)) []) fp [(h'.objs.size, go5)]) fp tn (wipe σ (own.map (·.2))) 0 (upd H2 T (.tbl (ps ++ more))) s5 := by
      refine ⟨J5, Tn.keep _ _ _ st2 fun b hb o e => by rw [h5]; exact old b o (nT b (f2 b hb).1) e, fun b hb => ?_⟩
      rw [upd_ne (nT b (f2 b hb).1)]
      exact (f2 b hb).1
    refine hQ (gex X s2 H2 scope g4.objs.size cd (X.A.in1.in1.over (.compLoop (.GeneratorExp elt [⟨tg, iter, [], 0⟩] scope gpos) 0 (.ref it) .none (gEnv X scope g4.objs.size cd)) []) fp [(h'.objs.size, go5)]) fp tn h'.objs.size s2.gens.size go5 (m0 + 1) s5 rfl rfl rfl hgen ⟨hgen _ (by rw [h5]; exact hp5 _), I5.nolimit, .fresh (.compStart (.GeneratorExp elt [⟨tg, iter, [], 0⟩] scope gpos) 0 (.ref it) .none (gEnv X scope g4.objs.size cd)), by rw [← hs5]; exact Array.getElem?_push_size .., rfl, ?_⟩ fun H' s' J => ?_
    · have G6 := G5.same (s' := s5.setGen s2.gens.size .running) rfl rfl (allBare_setGen J5.bare rfl)
      exact seg_gstart (Y := gex X s2 H2 scope g4.objs.size cd (X.A.in1.in1.over (.compLoop (.GeneratorExp elt [⟨tg, iter, [], 0⟩] scope gpos) 0 (.ref it) .none (gEnv X scope g4.objs.size cd)) []) fp [(h'.objs.size, go5)]) rfl rfl rfl go.co Tn (hg _ _ _ _ _ _ _ rA) (he _ _ _ _ _ _ _ rA) (gex_stat I2 ok hfp sz pnh) turn (m0 + 1) m0 _ _ _ (Nat.le_refl _) G6 w0'
    · exact I2.call' J.os J.base J.hok J.bare fun b hb => by
        obtain ⟨_, q1, _, q3, q4, q5⟩ := f2 b hb
        exact ⟨q3, q1, q4, q5⟩
  exact main _ _ _ _ rfl rfl rfl fun h => Heap.get?_push_size _ rfl
end
end Hf
set_option Elab.async false
set_option maxRecDepth 100000
set_option maxHeartbeats 4000000
namespace Hf
open PySem L2 PySem.Spec PyProof.Rows GenW NdefX
/-! ### the forms one uses -/
theorem g_list {K : PySem.W.Frag} {T a : Addr} {xs : List V} {g : TG} {te : TE} {vs : List Nat} {σ0 : L2.St} {st : Bool} {Q : VK} {H1 : Hp} (Pv : Nat → Hp → Prop) (h0 : ∀ H2, GxR.Tabbed T H1 H2 → Pv 0 H2) (hl : ∀ i H, i ≤ xs.length → Pv i H → SqL K H a xs)
    (hs : ∀ i x H, xs[i]? = some x → Pv i H → g x σ0 H fun σ2 H2 => wipe σ2 vs = σ0 ∧ te σ2 H2 fun y H3 => ∃ b : Bool, y = .bl b ∧ if b = st then Q (.bl st) H3 else Pv (i + 1) H3) (hd : ∀ H, Pv xs.length H → Q (.bl (!st)) H) :
    ∃ W : Nat → Nat → Hp → Prop, (∀ H2, GxR.Tabbed T H1 H2 → ∃ m, W 0 m H2) ∧ GTurn (Itl K a) g te vs σ0 st W Q := by
  refine ⟨fun i m H => m = xs.length - i ∧ i ≤ xs.length ∧ Pv i H, fun H2 h => ⟨_, rfl, Nat.zero_le _, h0 H2 h⟩, ?_⟩
  rintro i m H ⟨rfl, hi, p⟩
  have q := hl i H hi p
  by_cases hlt : i < xs.length
  · refine .inr ⟨⟨xs, xs[i], q, by simp [hlt]⟩, Pv (i + 1), fun H' p' => ⟨xs.length - (i + 1), by omega, rfl, hlt, p'⟩, fun x H' y => ?_⟩
    obtain ⟨e, y⟩ := y
    subst e
    exact hs i x H' (y xs q) p
  · have : i = xs.length := by omega
    subst this
    exact .inl ⟨⟨xs, q, Nat.le_refl _⟩, hd H p⟩
theorem g_range {T : Addr} {lo : Int} {n : Nat} {g : TG} {te : TE} {vs : List Nat} {σ0 : L2.St} {st : Bool} {Q : VK} {H1 : Hp} (Pv : Nat → Hp → Prop) (h0 : ∀ H2, GxR.Tabbed T H1 H2 → Pv 0 H2)
    (hs : ∀ i H, i < n → Pv i H → g (.int (lo + i)) σ0 H fun σ2 H2 => wipe σ2 vs = σ0 ∧ te σ2 H2 fun y H3 => ∃ b : Bool, y = .bl b ∧ if b = st then Q (.bl st) H3 else Pv (i + 1) H3) (hd : ∀ H, Pv n H → Q (.bl (!st)) H) :
    ∃ W : Nat → Nat → Hp → Prop, (∀ H2, GxR.Tabbed T H1 H2 → ∃ m, W 0 m H2) ∧ GTurn (Itr lo n) g te vs σ0 st W Q := by
  refine ⟨fun i m H => m = n - i ∧ i ≤ n ∧ Pv i H, fun H2 h => ⟨_, rfl, Nat.zero_le _, h0 H2 h⟩, ?_⟩
  rintro i m H ⟨rfl, hi, p⟩
  by_cases hlt : i < n
  · refine .inr ⟨hlt, Pv (i + 1), fun H' p' => ⟨n - (i + 1), by omega, rfl, hlt, p'⟩, fun x H' y => ?_⟩
    obtain ⟨e, y⟩ := y
    subst e
    subst y
    exact hs i H' hlt p
  · have : i = n := by omega
    subst this
    exact .inl ⟨Nat.le_refl _, hd H p⟩
section
variable {X : Cx} {scope : Scope} {own : List (Str × Nat)} {c T : Addr} {elt iter tg : Expr} {gpos p pos : Pos} {wi : TI} {g : TG} {te : TE} {k : Nat}
theorem pe_allG (hr : Room (k + 1) X.A) (hgl : Gl X "all") (hm : X.mg "all" = none) (TB : GxR.TabB X.base X.mg c T) (hcode : X.env.code = .ref c) (hN : X.N.Nodup) (ok : BlkOk X.N X.env.scope scope own) (go : GOk scope)
    (hi : PI X tg iter wi) (hg : ∀ (s : Shared) (H : Hp) (C : Addr) (cd : Value) (A : Around) (fp : List Addr) (pn : List (Addr × Obj)), Room k A → PG (gex X s H scope C cd A fp pn) tg g)
    (he : ∀ (s : Shared) (H : Hp) (C : Addr) (cd : Value) (A : Around) (fp : List Addr) (pn : List (Addr × Obj)), Room k A → PE (gex X s H scope C cd A fp pn) elt te) (hs : ∀ v, genFold iter X.env v = pure v := by intro v; rfl)
    (hse : starEach [.GeneratorExp elt [⟨tg, iter, [], 0⟩] scope gpos] X.env = (false, eval (.GeneratorExp elt [⟨tg, iter, [], 0⟩] scope gpos) X.env) :: starEach [] X.env := by rfl) :
    PE X (.Call (.Name "all" p) [.GeneratorExp elt [⟨tg, iter, [], 0⟩] scope gpos] [] pos) (tGen T false wi g te (own.map (·.2))) := by
  refine ⟨fun pins s σ H Q I h => ?_⟩
  refine wpAny_Call_Name_kw (ld_blt I hgl hm boot_all (PyProof.Rows.callWith_builtin1 ?_ hse (by rfl)))
  rw [hse]
  refine Calls.spliced_cons (gen_any hr TB hcode hN ok go hi hg he hs I h fun Y fp tn a gg o n s5 e1 e2 hpn hgo S back => ?_)
  refine Calls.spliced_nil ?_
  refine call_function_tree F.kind_all F.plain_all F.entry_all (F.args_all1 _) ?_
  unfold Builtin.«all»
  refine wpAny_bind (m := oneArg "all" _) (wpAny_pure ?_)
  refine wpAny_bind (wpAny_pyIter_gen S.gen ?_)
  refine wpAny_pure ⟨plainId_quiet F.plain_all_loop _, ?_⟩
  rw [← e1, ← e2]
  refine all_loop hr.hd (by have := hr.dp; omega) hpn hgo (fun b H' s' J q => ?_) n s5 S
  exact ⟨.bl b, H', back H' s' J, rfl, q⟩
theorem pe_anyG (hr : Room (k + 1) X.A) (hgl : Gl X "any") (hm : X.mg "any" = none) (TB : GxR.TabB X.base X.mg c T) (hcode : X.env.code = .ref c) (hN : X.N.Nodup) (ok : BlkOk X.N X.env.scope scope own) (go : GOk scope)
    (hi : PI X tg iter wi) (hg : ∀ (s : Shared) (H : Hp) (C : Addr) (cd : Value) (A : Around) (fp : List Addr) (pn : List (Addr × Obj)), Room k A → PG (gex X s H scope C cd A fp pn) tg g)
    (he : ∀ (s : Shared) (H : Hp) (C : Addr) (cd : Value) (A : Around) (fp : List Addr) (pn : List (Addr × Obj)), Room k A → PE (gex X s H scope C cd A fp pn) elt te) (hs : ∀ v, genFold iter X.env v = pure v := by intro v; rfl)
    (hse : starEach [.GeneratorExp elt [⟨tg, iter, [], 0⟩] scope gpos] X.env = (false, eval (.GeneratorExp elt [⟨tg, iter, [], 0⟩] scope gpos) X.env) :: starEach [] X.env := by rfl) :
    PE X (.Call (.Name "any" p) [.GeneratorExp elt [⟨tg, iter, [], 0⟩] scope gpos] [] pos) (tGen T true wi g te (own.map (·.2))) := by
  refine ⟨fun pins s σ H Q I h => ?_⟩
  refine wpAny_Call_Name_kw (ld_blt I hgl hm boot_any (PyProof.Rows.callWith_builtin1 ?_ hse (by rfl)))
  rw [hse]
  refine Calls.spliced_cons (gen_any hr TB hcode hN ok go hi hg he hs I h fun Y fp tn a gg o n s5 e1 e2 hpn hgo S back => ?_)
  refine Calls.spliced_nil ?_
  refine call_function_tree F.kind_any F.plain_any F.entry_any (F.args_any1 _) ?_
  unfold Builtin.«any»
  refine wpAny_bind (m := oneArg "any" _) (wpAny_pure ?_)
  refine wpAny_bind (wpAny_pyIter_gen S.gen ?_)
  refine wpAny_pure ⟨plainId_quiet F.plain_any_loop _, ?_⟩
  rw [← e1, ← e2]
  refine any_loop hr.hd (by have := hr.dp; omega) hpn hgo (fun b H' s' J q => ?_) n s5 S
  exact ⟨.bl b, H', back H' s' J, rfl, q⟩
end
end Hf
set_option Elab.async false
set_option maxRecDepth 100000
set_option maxHeartbeats 4000000
namespace Hf
open PySem L2 PySem.Spec PyProof.Rows
/-! ## lo <= sign <= hi as the test of a generator over a text -/
theorem elt_between {prog : Program} {w : World} {scope : Scope} {x lo hi : Str} {j1 j2 : Nat} {p1 p2 p3 p4 : Pos} (hk : scope.kind = .function) (hl : scope.names.lookup x = some .local)
    (hd : (x == ("__debug__" : Str)) = false := by decide) :
    GxR.EltP prog w scope x (.Compare (.Constant (.str lo) j1 p1) [.LtE, .LtE] [.Name x p2, .Constant (.str hi) j2 p3] p4)
      (fun c => (!decide ([c] < lo.cps.toList)) && !decide (hi.cps.toList < [c])) := by
  intro cenv A' E' c t s2 m2 hs hn hm
  refine Compare_chain (Calls.Constant_str (chain_link (wpAny_Name (wpAny_loadName_local (by rw [hs]; exact hk) (show cenv.scope.names.lookup x = some .local by rw [hs]; exact hl) hn hm (PySem.P.le_str (wpAny_truthy_bool ?_))) hd)))
  by_cases h : ([c] : List Nat) < lo.cps.toList
  · rw [decide_eq_true (p := ([c] : List Nat) < lo.cps.toList) h]
    exact ite_ff ⟨by show Value.bool (!true) = Value.bool ((!decide (([c] : List Nat) < lo.cps.toList)) && _); rw [decide_eq_true h]; rfl, GxR.keeps_tok _ _⟩
  · rw [decide_eq_false (p := ([c] : List Nat) < lo.cps.toList) h]
    exact ite_tt (chain_last (Calls.Constant_str (PySem.P.le_str ⟨by show Value.bool _ = Value.bool ((!decide (([c] : List Nat) < lo.cps.toList)) && _); rw [decide_eq_false h]; rfl, GxR.keeps_tok _ _⟩)))
/-! ## calls that keep all that stands: frames unknown -/
theorem kps_refl (s : Shared) : Keeps s s := GxR.keeps_refl s
theorem kps_trans {a b c : Shared} (x : Keeps a b) (y : Keeps b c) : Keeps a c := by
  obtain ⟨h1, t1, rfl, k1⟩ := x
  obtain ⟨h2, t2, rfl, k2⟩ := y
  exact ⟨h2, t2, rfl, fun b o e => k2 b o (k1 b o e)⟩
theorem kps_tok (s : Shared) (t : Nat) : Keeps s { s with toks := t } := GxR.keeps_tok s t
theorem mod_keeps {K : PySem.W.Frag} {mg : Str → Option Value} {h h' : Heap} (M : Mod K mg h) (k : ∀ b o, h.get? b = some o → h'.get? b = some o) : Mod K mg h' :=
  ⟨M.kin.keeps k, M.glob.keeps k, let ⟨mb, a, b⟩ := M.blt; ⟨mb, a.keeps k, b⟩, M.nolimit.keeps k⟩
/-- a frame of a def that keeps what stands -/
structure Fm (K : PySem.W.Frag) (mg : Str → Option Value) (env : Env) (m : Str → Option Value) (s0 s : Shared) : Prop where
  kp : Keeps s0 s
  ns : s.heap.Ns env.locals m
  md : Mod K mg s.heap
theorem Fm.step {K : PySem.W.Frag} {mg : Str → Option Value} {env : Env} {m : Str → Option Value} {s0 s s' : Shared} (F : Fm K mg env m s0 s) (k : Keeps s s') : Fm K mg env m s0 s' := by
  refine ⟨kps_trans F.kp k, ?_, ?_⟩
  · obtain ⟨h, t, rfl, kk⟩ := k
    exact F.ns.keeps kk
  · obtain ⟨h, t, rfl, kk⟩ := k
    exact mod_keeps F.md kk
theorem kps_get {s s' : Shared} (k : Keeps s s') {b : Addr} {o : Obj} (e : s.heap.get? b = some o) : s'.heap.get? b = some o := by
  obtain ⟨h, t, rfl, kk⟩ := k
  exact kk b o e
structure Fn (env : Env) (x : Str) : Prop where
  kind : env.scope.kind = .function
  glob : env.globals = mainGlobals
  blt : env.builtins = builtinsNs
section
variable {P : Program} {w : World} {A : Around} {E : Value → Shared → Prop} {K : PySem.W.Frag} {mg : Str → Option Value} {env : Env} {m : Str → Option Value} {s0 s : Shared} {x : Str} {pos : Pos} {Q : Value → Shared → Prop}
theorem rn_loc {v : Value} (F : Fm K mg env m s0 s) (hk : env.scope.kind = .function) (hl : env.kindOf x = some .local) (hv : m x = some v) (h : Q v s) (hd : (x == ("__debug__" : Str)) = false := by decide) : wpAny (model P w) A (eval (.Name x pos) env) Q E s :=
  wpAny_Name (wpAny_loadName_local hk hl F.ns hv h) hd
theorem rn_glob {v : Value} (F : Fm K mg env m s0 s) (e : Fn env x) (hg : env.kindOf x = some .globalImplicit) (hv : mg x = some v) (h : Q v s) (hd : (x == ("__debug__" : Str)) = false := by decide) : wpAny (model P w) A (eval (.Name x pos) env) Q E s :=
  Calls.Name_function_global e.kind hg (Calls.loadGlobal_global (by rw [e.glob]; exact F.md.glob) hv h) hd
theorem rn_blt {v : Value} (F : Fm K mg env m s0 s) (e : Fn env x) (hg : env.kindOf x = some .globalImplicit) (hm : mg x = none) (hv : bootBuiltins x = some v) (h : Q v s) (hn : x ≠ "__name__" := by decide) (hd : (x == ("__debug__" : Str)) = false := by decide) :
    wpAny (model P w) A (eval (.Name x pos) env) Q E s := by
  obtain ⟨mb, h1, h2⟩ := F.md.blt
  exact Calls.Name_function_global e.kind hg (Calls.loadGlobal_builtin (by rw [e.glob]; exact F.md.glob) hm (by rw [e.blt]; exact h1) ((h2 x hn).trans hv) h) hd
end
/-- called with us at a heap of which R holds, the def at f answers b and keeps what stands -/
def KC (P : Program) (w : World) (K : PySem.W.Frag) (mg : Str → Option Value) (k : Nat) (f : Addr) (us : List Value) (R : Heap → Prop) (b : Bool) : Prop :=
  ∀ (A : Around) (s : Shared) (Q : Value → Shared → Prop) (E : Value → Shared → Prop), Room k A → Mod K mg s.heap → R s.heap → (∀ s', Keeps s s' → Q (.bool b) s') → wpAny (model P w) A (call (.ref f) us) Q E s
end Hf
set_option Elab.async false
set_option maxRecDepth 100000
set_option maxHeartbeats 4000000
namespace Hf
open PySem L2 PySem.Spec PyProof.Rows
/-- what isinstance asks of a class -/
structure IsC (K : PySem.W.Frag) (C : Addr) : Prop where
  cl : Cls K C
  ha : PySem.W.findIn K (.ref C) "__class__" = some (some (.builtin "object.__class__"))
  hm : PySem.W.mroIn K C (.type "object") = some true
structure IsK (K : PySem.W.Frag) : Prop where
  hn : PySem.W.specialIn K (.builtin "object.__class__") "__get__" = some (some (.builtin "getset_descriptor.__get__"))
  htk : PySem.W.takesIn K (.builtin "object.__class__") = some true
end Hf
set_option Elab.async false
set_option maxRecDepth 100000
set_option maxHeartbeats 4000000
namespace Hf
open PySem L2 PySem.Spec PyProof.Rows
/-! ## len(set(texts)) -/
theorem snocI {α : Type} {p : List α → Prop} (h0 : p []) (h1 : ∀ ys y, p ys → p (ys ++ [y])) (xs : List α) : p xs := by
  rw [← List.reverse_reverse xs]
  induction xs.reverse with
  | nil => exact h0
  | cons y ys ih =>
    rw [List.reverse_cons]
    exact h1 _ _ ih
/-- what a set holds, and how many, behind one text more -/
def addT (a : (Str → Bool) × Nat) (k : Str) : (Str → Bool) × Nat := (fun j => a.1 j || decide (j = k), if a.1 k = true then a.2 else a.2 + 1)
def setT (xs : List Str) : (Str → Bool) × Nat := xs.foldl addT (fun _ => false, 0)
theorem setT_snoc (xs : List Str) (k : Str) : setT (xs ++ [k]) = addT (setT xs) k := by unfold setT; rw [List.foldl_append]; rfl
theorem setT_mem (xs : List Str) (k : Str) : (setT xs).1 k = true ↔ k ∈ xs := by
  induction xs using snocI with
  | h0 => simp [setT]
  | h1 ys y ih =>
    rw [setT_snoc]
    show ((setT ys).1 k || decide (k = y)) = true ↔ _
    rw [Bool.or_eq_true, ih, decide_eq_true_iff, List.mem_append, List.mem_singleton]
theorem setT_le (xs : List Str) : (setT xs).2 ≤ xs.length := by
  induction xs using snocI with
  | h0 => exact Nat.le_refl 0
  | h1 ys y ih =>
    rw [setT_snoc, List.length_append]
    show (if (setT ys).1 y = true then (setT ys).2 else (setT ys).2 + 1) ≤ _
    split <;> simp only [List.length_singleton] <;> omega
theorem setT_nodup (xs : List Str) : (setT xs).2 = xs.length ↔ xs.Nodup := by
  induction xs using snocI with
  | h0 => simp [setT]
  | h1 ys y ih =>
    have le := setT_le ys
    rw [setT_snoc, List.length_append, List.length_singleton]
    show (if (setT ys).1 y = true then (setT ys).2 else (setT ys).2 + 1) = _ ↔ _
    have nd : (ys ++ [y]).Nodup ↔ ys.Nodup ∧ y ∉ ys := by
      rw [List.nodup_append]
      constructor
      · rintro ⟨a, _, c⟩
        exact ⟨a, fun h => c y h y (List.mem_singleton_self y) rfl⟩
      · rintro ⟨a, b⟩
        refine ⟨a, by simp, fun z hz u hu => ?_⟩
        rw [List.mem_singleton.mp hu]
        rintro rfl
        exact b hz
    rw [nd]
    by_cases c : (setT ys).1 y = true
    · rw [if_pos c]
      constructor
      · intro e; omega
      · intro e; exact absurd ((setT_mem ys y).mp c) e.2
    · rw [if_neg c]
      constructor
      · intro e; exact ⟨ih.mp (by omega), fun h => c ((setT_mem ys y).mpr h)⟩
      · intro e; have := ih.mpr e.1; omega
section
variable {P : Program} {w : World} {A : Around} {E : Value → Shared → Prop} {s : Shared}
abbrev SetAt (P : Program) (w : World) (h : Heap) (a : Addr) (c : (Str → Bool) × Nat) : Prop := h.SetOf (PySem.strKind P w) a c.1 c.2
theorem SetAt.at {h h' : Heap} {a : Addr} {c : (Str → Bool) × Nat} (x : SetAt P w h a c) (k : ∀ o, h.get? a = some o → h'.get? a = some o) : SetAt P w h' a c := by
  obtain ⟨o, es, ep, t, e, r⟩ := x
  exact ⟨o, es, ep, t, k o e, r⟩
/-- the update's own loop, n - i texts left -/
theorem set_turns {R : Result → Shared → Prop} {it a : Addr} {fp wr : List Addr} {G : Array GenState → Array GenState → Prop} {n : Nat} {F : Nat → Value → Prop} {St : Nat → Shared → Prop} (Wk : WalksS P w A.in1 it fp wr G n F St) (xs : List Str) (hn : xs.length = n) (hfp : a ∉ fp)
    (room : n + 1 < scanBound) (txt : ∀ i v, F i v → ∃ (x : Str) (t : Tok), xs[i]? = some x ∧ v = Value.str x t) :
    ∀ (left i : Nat) (s : Shared), i + left = n → St i s → SetAt P w s.heap a (setT (xs.take i)) →
      (∀ s', Moved (a :: wr) G s s' → SetAt P w s'.heap a (setT xs) → R (.ok (.ret .none)) s') → codeAny (model P w) A (.builtin "set.update.loop" ⟨[.ref a, .ref it], []⟩) R s
  | 0, i, s, hi, hst, hS, hR => by
    obtain rfl : i = n := hi
    refine codeAny_builtin PyProof.Rows.F.entry_set_update_loop ?_
    rw [Around.under_plainId PyProof.Rows.F.plain_set_update_loop _]
    refine wpAny_bind (m := pyNext (.ref it)) (Wk.done s _ _ hst fun s' mv => wpAny_pure (hR s' (mv.mono fun b hb => List.mem_cons_of_mem _ hb) ?_))
    rw [List.take_of_length_le (Nat.le_of_eq hn)] at hS
    exact hS.at fun o e => mv.heap a o (fun z => hfp (Wk.sub _ z)) e
  | left + 1, i, s, hi, hst, hS, hR => by
    have lt : i < n := by omega
    refine codeAny_builtin PyProof.Rows.F.entry_set_update_loop ?_
    rw [Around.under_plainId PyProof.Rows.F.plain_set_update_loop _]
    refine wpAny_bind (m := pyNext (.ref it)) (Wk.item i s _ _ lt hst fun v s1 hv hst1 mv => ?_)
    obtain ⟨x, t, hx, rfl⟩ := txt i v hv
    have S1 : SetAt P w s1.heap a (setT (xs.take i)) := hS.at fun o e => mv.heap a o (fun z => hfp (Wk.sub _ z)) e
    have few : (setT (xs.take i)).2 ≤ i := Nat.le_trans (setT_le _) (by rw [List.length_take]; omega)
    refine wpAny_bind (m := holding [Value.str x t] (setAdd a (.str x t))) (wpAny_holding ?_)
    unfold setAdd
    refine wpAny_holding (wpAny_bind ((PySem.strKind P w).pyHash (k := x) (strKind_is _ _ _ _) ?_))
    refine wpAny_setAddHashed_of (knd := PySem.strKind P w) (s := { s1 with toks := s1.toks + 1 }) (strKind_is _ _ _ _) rfl S1 (by omega) fun h2 sb S2 => ?_
    have S3 : SetAt P w h2 a (setT (xs.take (i + 1))) := by
      have e : xs.take (i + 1) = xs.take i ++ [x] := by rw [List.take_add_one, hx]; rfl
      rw [e, setT_snoc]
      exact S2
    have apart : ∀ b, b ∈ fp → b ≠ a := fun b hb z => hfp (by rw [← z]; exact hb)
    refine wpAny_pure ⟨plainId_quiet PyProof.Rows.F.plain_set_update_loop _, set_turns Wk xs hn hfp room txt left (i + 1) _ (by omega) (Wk.frame _ s1 _ _ hst1 (Nat.le_succ _) fun b hb o e => (sb.2 b (apart b hb)).trans e) S3 fun s3 mv3 S4 => hR s3 ?_ S4⟩
    exact Moved.trans Wk.gtrans ((mv.mono fun b hb => List.mem_cons_of_mem _ hb).then_heap (Nat.le_succ _) fun b o hb e => (sb.2 b (fun z => hb (by rw [z]; exact List.mem_cons_self))).trans e) mv3
/-- a set as it is made -/
abbrev ob0 (led : Bool) : Obj := { cls := .type "set", dict := none, data := .set #[] 0 (.fresh 0 0 led) }
/-- set.__init__ of the new set a with the list of texts at l -/
theorem set_init {l a : Addr} {its : Array Value} {xs : List Str} {led : Bool} (hh : A.handled = none) (hl : s.heap.IsList l its) (ha : s.heap.get? a = some (ob0 led)) (last : s.heap.objs.size = a + 1) (hn : xs.length = its.size) (room : its.size + 1 < scanBound)
    (txt : ∀ (i : Nat) (v : Value), its[i]? = some v → ∃ (x : Str) (t : Tok), xs[i]? = some x ∧ v = Value.str x t) :
    codeAny (model P w) A (.call (.builtin "set.__init__") ⟨[.ref a, .ref l], []⟩)
      (wants (fun r s2 => r = .none ∧ ∃ g tk, s2 = { s with heap := g, toks := tk } ∧ SetAt P w g a (setT xs) ∧ ∀ b o, b < a → s.heap.get? b = some o → g.get? b = some o) E) s := by
  have ty : Shared.TypeIs s (.ref a) "set" := ⟨_, ha, rfl⟩
  have la : l ≠ a := fun z => by
    obtain ⟨o, e, c, _⟩ := hl
    rw [z, ha] at e
    have c2 : (ob0 led).cls = .type "list" := by rw [Option.some.inj e]; exact c
    exact absurd (show Value.type "set" = Value.type "list" from c2) (by decide)
  refine codeAny_call_builtin PySem.F.called_set.init.plain PySem.F.entry_set_init (check_set_init_1 ty ?_)
  obtain ⟨⟨cl, dd, da, sl⟩, ho, hc, nl, hd⟩ := id hl
  simp only at hc hd
  subst hc hd
  have k1 := PySem.F.sub_list_set
  have k2 := PySem.F.sub_list_frozenset
  have k3 : (Value.type "list" == Value.type "dict") = false := by decide
  unfold Builtin.«set.__init__» noKeywords Builtin.Frozenset.updateFrom
  generalize hit : pyIter = itr
  wp_walk
  subst hit
  refine wpAny_pyIter_list hl (wpAny_bind (wpAny_runValue ?_))
  have ll : l < s.heap.objs.size := Heap.lt_size ho
  have al : a < s.heap.objs.size := Heap.lt_size ha
  have far : a ∉ [s.heap.objs.size, l] := fun z => by
    rcases List.mem_cons.mp z with z | z
    · exact Nat.ne_of_lt al z
    · exact la (List.mem_singleton.mp z).symm
  refine set_turns (n := its.size) ((Walks.list (A := A.in1.in1) (by simp [hh]) s.heap.objs.size l (Nat.ne_of_lt ll) its).toS) xs hn far room txt its.size 0 _ (by omega) ?_ ?_ fun s3 mv S3 => ?_
  · exact ⟨⟨_, Heap.get?_push_size _ rfl, rfl, rfl⟩, hl.push _⟩
  · exact PyProof.Rows.SetOf_congr ((PyProof.Rows.setObjOf_fresh (knd := PySem.strKind P w) led).setOf (Heap.get?_push_of_some _ ha) (by unfold scanBound; omega)) (fun _ => rfl) rfl
  · obtain ⟨g3, gg, dr, tk, os⟩ := s3
    obtain rfl : gg = s.gens := mv.gens
    obtain rfl : dr = s.drawn := mv.drawn
    obtain rfl : os = s.os := mv.os
    refine wpAny_pure (wpAny_pure ⟨rfl, g3, tk, rfl, S3, fun b o hb e => mv.heap b o (fun z => ?_) (Heap.get?_push_of_some _ e)⟩)
    rcases List.mem_cons.mp z with z | z
    · exact Nat.ne_of_lt hb z
    · have z2 := List.mem_singleton.mp z
      have z3 : b < s.heap.objs.size := Heap.lt_size e
      rw [z2] at z3
      exact Nat.lt_irrefl _ z3
theorem set_of_texts {l : Addr} {its : Array Value} {xs : List Str} {Q : Value → Shared → Prop} (hh : A.handled = none) (hl : s.heap.IsList l its) (hn : xs.length = its.size) (room : its.size + 1 < scanBound)
    (txt : ∀ (i : Nat) (v : Value), its[i]? = some v → ∃ (x : Str) (t : Tok), xs[i]? = some x ∧ v = Value.str x t)
    (hQ : ∀ (g : Heap) (tk : Nat), SetAt P w g s.heap.objs.size (setT xs) → (∀ b o, s.heap.get? b = some o → g.get? b = some o) → Q (.ref s.heap.objs.size) { s with heap := g, toks := tk }) :
    wpAny (model P w) A (call (.type "set") [.ref l]) Q E s := by
  obtain ⟨c, tl, hmro⟩ := PySem.F.called_set.mro
  have m1 := PySem.F.called_set.made
  have m2 := PySem.F.called_set.sub
  have m3 := PySem.F.called_set.notType
  have m4 := PySem.F.called_set.canCreate
  have m5 := PySem.F.typeCall_set_1 (.ref l)
  refine wpAny_call (codeAny_of_tree (wpAny_pure (a := Fin.again _) ⟨Code.quiet_builtin _ (by decide +kernel), codeAny_builtin PySem.F.entry_type_call ?_⟩))
  rw [Around.under_plain (weight_type_call_type "set" [.ref l] []) rfl]
  repeat (any_goals (first | assumption | wp_step))
  refine codeAny_mono (code_set_new_1 (.ref l) (E := E) (Q₁ := fun o s1 => ∃ led : Bool, o = .ref s.heap.objs.size ∧ s1 = { s with heap := s.heap.push (ob0 led) }) fun led => ⟨led, rfl, rfl⟩) fun r s1 hr => ?_
  rcases r with e | fl
  · exact hr
  cases fl with
  | ret o =>
    obtain ⟨led, rfl, rfl⟩ := hr
    have ha : (s.heap.push (ob0 led)).get? s.heap.objs.size = some (ob0 led) := Heap.get?_push_size _ rfl
    have ty : Shared.TypeIs { s with heap := s.heap.push (ob0 led) } (.ref s.heap.objs.size) "set" := ⟨_, ha, rfl⟩
    have i1 := PySem.F.called_set.init.lookup
    have i2 := PySem.F.called_set.init.bind (.ref s.heap.objs.size)
    repeat (any_goals (first | assumption | wp_step))
    refine codeAny_mono (set_init (P := P) (w := w) (E := E) (s := { s with heap := s.heap.push (ob0 led) }) (xs := xs) (by simp [hh]) (hl.push _) ha (Heap.size_push ..) hn room txt) fun r2 s2 hr2 => ?_
    rcases r2 with e | fl2
    · exact hr2
    cases fl2 with
    | ret v =>
      obtain ⟨rfl, g, tk, rfl, S2, kp⟩ := hr2
      repeat (any_goals (first | assumption | wp_step))
      exact hQ g tk S2 fun b o e => kp b o (Heap.lt_size e) (Heap.get?_push_of_some _ e)
    | _ => exact hr2.elim
  | _ => exact hr.elim
end
theorem b_set : bootBuiltins "set" = some (.type "set") := by decide +kernel
/-- len(set(e)), e a list of texts -/
def tLenT (K : PySem.W.Frag) (te : TE) : TE := fun σ H Q => te σ H fun v H1 => ∃ (a : Addr) (xs : List Str), v = .ref a ∧ SqL K H1 a (xs.map V.str) ∧ xs.length < 1000 ∧ Q (.int (setT xs).2) H1
theorem vals_txt : ∀ {xs : List Str} {us : List Value}, Vals (xs.map V.str) us → ∀ (i : Nat) (v : Value), us[i]? = some v → ∃ (x : Str) (t : Tok), xs[i]? = some x ∧ v = Value.str x t
  | [], _, .nil, i, v, h => by simp at h
  | x :: xs, _, .cons r tl, 0, v, h => by
    obtain ⟨t, e⟩ := r
    simp at h
    exact ⟨x, t, rfl, by rw [← h, e]⟩
  | x :: xs, _, .cons r tl, i + 1, v, h => by
    obtain ⟨y, t, e1, e2⟩ := vals_txt tl i v (by simpa using h)
    exact ⟨y, t, by simpa using e1, e2⟩
theorem pe_lenT {X : Cx} {a : Expr} {te : TE} {p p2 q pos : Pos} (hc : X.calm = true) (hg : Gl X "len") (hm : X.mg "len" = none) (hg2 : Gl X "set") (hm2 : X.mg "set" = none) (ha : PE X a te)
    (na : starEach [a] X.env = (false, eval a X.env) :: starEach [] X.env := by rfl) : PE X (.Call (.Name "len" p) [.Call (.Name "set" p2) [a] [] q] [] pos) (tLenT X.K te) := by
  constructor
  intro pins s σ H Q I h
  refine Call_ (ld_blt I hg hm boot_len (PyProof.Rows.callWith_builtin1 (PyProof.Rows.args_cons (Call_ (ld_blt I hg2 hm2 b_set ?_)) rfl) rfl rfl))
  refine PyProof.Rows.callWith_type1 (PyProof.Rows.args_cons (thn (ha.run pins s σ H _ I h) fun v s1 hh => PyProof.Rows.args_nil ?_) na) na rfl
  obtain ⟨x, H1, I1, r1, l, xs, rfl, hq, few, q1⟩ := hh
  cases (show v = Value.ref l from r1)
  obtain ⟨its, r, pl, _⟩ := I1.list hq
  have sz : xs.length = its.toArray.size := by rw [List.size_toArray, ← r.length, List.length_map]
  refine set_of_texts (I1.ok.hd hc) pl.isList sz (by rw [← sz]; unfold scanBound; omega) (fun i v e => vals_txt r i v (by simpa using e)) fun g tk S kp => PyProof.Rows.args_nil ?_
  obtain ⟨o, es, ep, t, e1, e2, e3, _, _, _, e4, e5⟩ := S
  have le := setT_le xs
  have I2 : Inv X pins σ H1 { s1 with heap := g, toks := tk } := I1.kept kp
  exact call_len_set e1 e2 e3 e4 (by rw [e5]; omega) ⟨.int (setT xs).2, H1, I2.tok _, ⟨_, by rw [e5]⟩, q1⟩
end Hf
set_option Elab.async false
set_option maxRecDepth 100000
set_option maxHeartbeats 4000000
namespace Hf
open PySem L2
abbrev NumF (K : PySem.W.Frag) (f : Addr) (fd : FuncData) : Prop := FunD K "is_number" "is_number" (defArgs sIsNumber) (defBody sIsNumber) (defScope sIsNumber) [.non] [] f fd
theorem num_b3 {K : PySem.W.Frag} {f : Addr} {fd : FuncData} (F : NumF K f fd) : Binds K fd ["value", "least", "most"] [] := by
  obtain ⟨ds, r, b⟩ := FunD.binds1 (ps := ["value", "least", "most"]) F 3 1 (by simp) rfl fun T kV doc pm an cdv ct us its hl hi => match us, hl, its, hi with
    | [_, _, _], _, [_], _ => ⟨_, rfl, rfl⟩
  cases (show Vals [] ds from r)
  exact b
/-- the module's constants -/
structure Co (mg : Str → Option Value) : Prop where
  letters : ∃ t, mg "MOST_LETTERS" = some (.int 8 t)
  steps : ∃ t, mg "MOST_STEPS" = some (.int 1000 t)
  weight : ∃ t, mg "MOST_WEIGHT" = some (.int 100 t)
  parts : ∃ t, mg "MOST_PARTS" = some (.int 6 t)
  works : ∃ t, mg "MOST_WORKS" = some (.int 20 t)
  within : ∃ t, mg "MOST_WITHIN" = some (.int 5 t)
  leaf : ∃ t, mg "LEAF" = some (.str "leaf" t)
  row : ∃ t, mg "ROW" = some (.str "row" t)
  bundle : ∃ t, mg "BUNDLE" = some (.str "bundle" t)
theorem nodup3 {a : Bool} : (if a = true then True else True) := by cases a <;> trivial
def spNumber : Sp := fun vs H Q _ => ∃ i lo hi : Int, vs = [.int i, .int lo, .int hi] ∧ Q (.bl (numOk lo hi i)) H
def spCount (lo hi : Int) : Sp := fun vs H Q _ => ∃ i : Int, vs = [.int i] ∧ Q (.bl (numOk lo hi i)) H
def spSteps : Sp := fun vs H Q _ => ∃ st : Option Int, vs = [stV st] ∧ Q (.bl (stOk st)) H
def spName (T : Addr) : Sp := fun vs H Q _ => ∃ z : Str, vs = [.str z] ∧ z.length ≤ 1000 ∧ Tab H T ∧ ∀ H', Sm H H' → Q (.bl (nameOk z)) H'
section
variable {P : Program} {w : World} {K : PySem.W.Frag} {mg : Str → Option Value} {base : Heap}
theorem ok_number {f : Addr} {fd : FuncData} (D : Gd K mg "is_number" sIsNumber [.non] f fd) (b : Bi mg) : FnOk P w K mg base CX0 1 f fd ["value", "least", "most"] spNumber := by
  refine D.F.ok scIsNumber (fun vs H Q E h => ?_) (fun cdv A outer s H vs Q E hr h => ?_)
  · obtain ⟨i, lo, hi, rfl, _⟩ := h
    rfl
  obtain ⟨i, lo, hi, rfl, k⟩ := h
  refine ⟨_, (pss_cons (ps_if (PW.pt (pw_or (pt_not (pt_val (pe_callB call_isi (by rfl) b.isinstance b_isi (pa_cons (pv 0) (pa_cons (pe_bltn (v := .ty "int") (by rfl) b.int b_int rfl) pa_nil))))) (pw_or1 (pt_val (pe_callB call_isi (by rfl) b.isinstance b_isi (pa_cons (pv 0) (pa_cons (pe_bltn (v := .ty "bool") (by rfl) b.bool b_bool rfl) pa_nil))))))) (pss_one (ps_ret pe_bl)) pss_nil) (pss_one (ps_ret (pe_and (pe_cmpR op_le (pv 1) (pv 0) (nomark _)) (pe_one (pe_or (pe_cmpR op_isN (pv 2) pe_non (nomark _)) (pe_one (pe_cmpR op_le (pv 0) (pv 2) (nomark _))))))))), ?_⟩
  refine ⟨_, rfl, _, _, _, _, true, rfl, .ty _, .base (.int _), kit_int_int, true, rfl, iteF ?_⟩
  refine ⟨_, rfl, _, _, _, _, false, rfl, .ty _, .base (.int _), kit_int_bool, false, rfl, iteF ?_⟩
  refine ⟨_, rfl, _, rfl, _, _, rfl, rfl, _, rfl, ?_⟩
  unfold numOk at k
  by_cases c : lo ≤ i
  · rw [decide_eq_true c] at k ⊢
    rw [Bool.true_and] at k
    exact iteT ⟨_, rfl, rfl, _, rfl, iteF ⟨_, rfl, _, rfl, _, _, rfl, rfl, k⟩⟩
  · rw [decide_eq_false c] at k ⊢
    exact iteF k
theorem ok_count {f fN : Addr} {fd fdN : FuncData} (D : Gf K mg "is_count" sIsCount ["value"] f fd) (N : Gd K mg "is_number" sIsNumber [.non] fN fdN) (b : Bi mg) (c : Co mg) : FnOk P w K mg base CX0 2 f fd ["value"] (spCount 1 1000) := by
  have G : FnOk P w K mg base CX0 1 fN fdN ["value", "least", "most"] spNumber := ok_number N b
  refine D.F.ok scIsCount (fun vs H Q E h => ?_) (fun cdv A outer s H vs Q E hr h => ?_)
  · obtain ⟨i, rfl, _⟩ := h
    rfl
  · obtain ⟨i, rfl, k⟩ := h
    obtain ⟨t, hm⟩ := c.steps
    refine ⟨_, pss_one (ps_ret (pe_call G hr (by rfl) N.m N.F.kp (num_b3 N.F) .nil pass0 (pa_cons (pv 0) (pa_cons pe_int (pa_cons (pe_glob (v := .int 1000) (by rfl) hm ⟨_, rfl⟩) pa_nil))))), ?_⟩
    exact ⟨_, rfl, i, 1, 1000, rfl, k⟩
theorem ok_weight {f fN : Addr} {fd fdN : FuncData} (D : Gf K mg "is_weight" sIsWeight ["value"] f fd) (N : Gd K mg "is_number" sIsNumber [.non] fN fdN) (b : Bi mg) (c : Co mg) : FnOk P w K mg base CX0 2 f fd ["value"] (spCount 1 100) := by
  have G : FnOk P w K mg base CX0 1 fN fdN ["value", "least", "most"] spNumber := ok_number N b
  refine D.F.ok scIsWeight (fun vs H Q E h => ?_) (fun cdv A outer s H vs Q E hr h => ?_)
  · obtain ⟨i, rfl, _⟩ := h
    rfl
  · obtain ⟨i, rfl, k⟩ := h
    obtain ⟨t, hm⟩ := c.weight
    refine ⟨_, pss_one (ps_ret (pe_call G hr (by rfl) N.m N.F.kp (num_b3 N.F) .nil pass0 (pa_cons (pv 0) (pa_cons pe_int (pa_cons (pe_glob (v := .int 100) (by rfl) hm ⟨_, rfl⟩) pa_nil))))), ?_⟩
    exact ⟨_, rfl, i, 1, 100, rfl, k⟩
theorem ok_steps {f fC fN : Addr} {fd fdC fdN : FuncData} (D : Gf K mg "is_steps" sIsSteps ["value"] f fd) (C : Gf K mg "is_count" sIsCount ["value"] fC fdC) (N : Gd K mg "is_number" sIsNumber [.non] fN fdN) (b : Bi mg) (c : Co mg) :
    FnOk P w K mg base CX0 3 f fd ["value"] spSteps := by
  have G : FnOk P w K mg base CX0 2 fC fdC ["value"] (spCount 1 1000) := ok_count C N b c
  refine D.F.ok scIsSteps (fun vs H Q E h => ?_) (fun cdv A outer s H vs Q E hr h => ?_)
  · obtain ⟨st, rfl, _⟩ := h
    rfl
  · obtain ⟨st, rfl, k⟩ := h
    refine ⟨_, pss_one (ps_ret (pe_or (pe_cmpR op_isN (pv 0) pe_non (nomark _)) (pe_one (pe_call G hr (by rfl) C.m C.F.kp C.b .nil pass0 (pa_cons (pv 0) pa_nil))))), ?_⟩
    cases st with
    | none => exact ⟨_, rfl, rfl, _, rfl, iteT k⟩
    | some i => exact ⟨_, rfl, rfl, _, rfl, iteF ⟨_, rfl, i, rfl, k⟩⟩
theorem az_sign (c : Nat) : ((!decide ([c] < ("a" : Str).cps.toList)) && !decide (("z" : Str).cps.toList < [c])) = (decide (97 ≤ c) && decide (c ≤ 122)) := by
  have ea : ("a" : Str).cps.toList = [97] := by decide +kernel
  have ez : ("z" : Str).cps.toList = [122] := by decide +kernel
  rw [ea, ez]
  have h1 : decide ([c] < [97]) = decide (c < 97) := by simp [List.cons_lt_cons_iff]
  have h2 : decide ([122] < [c]) = decide (122 < c) := by simp [List.cons_lt_cons_iff]
  rw [h1, h2]
  by_cases a : 97 ≤ c <;> by_cases z : c ≤ 122 <;> simp [a, z, Nat.not_lt.mpr, Nat.lt_of_not_le]
  all_goals omega
theorem ok_name {f : Addr} {fd : FuncData} {T : Addr} (D : Gt K mg base "is_name" sIsName ["value"] f fd T) (b : Bi mg) (k0 : Co mg) : FnOk P w K mg base CX0 2 f fd ["value"] (spName T) := by
  obtain ⟨c, hc, TB⟩ := D.tab
  obtain ⟨oc, od, kV, doc, pm, an, cdv, ct, osl, rfl, lk, hcd⟩ := D.g.F.ex
  obtain rfl : cdv = .ref c := hc
  refine fn_of lk hcd scIsName (fun vs H Q E h => ?_) fun A outer s H vs Q E hr h => ?_
  · obtain ⟨z, rfl, _⟩ := h
    rfl
  obtain ⟨z, rfl, hz, hT, k⟩ := h
  obtain ⟨t, hm⟩ := k0.letters
  suffices q : ∃ t, PSs (cxOf CX0 P w K mg base ["value", "sign"] "is_name" (defScope sIsName) f (.ref c) A outer s H E).nox (defBody sIsName) t ∧ t { nx := fun _ H' => Q .non H', rt := Q } (start ["value", "sign"] [.str z]) H by
    obtain ⟨t, h1, h2⟩ := q
    exact ⟨t, h1.nox, h2⟩
  refine ⟨_, pss_cons (ps_if (PW.pt (pw_or (pt_not (pt_val (pe_callB call_isi (by rfl) b.isinstance b_isi (pa_cons (pv 0) (pa_cons (pe_bltn (v := .ty "str") (by rfl) b.str b_str rfl) pa_nil)))))
      (pw_or1 (pt_not (pt_chain op_le op_le pe_int (pe_callB call_len_str (by rfl) b.len PySem.boot_len (pa_cons (pv 0) pa_nil)) (pe_glob (v := .int 8) (by rfl) hm ⟨_, rfl⟩)))))) (pss_one (ps_ret pe_bl)) pss_nil)
    (pss_one (ps_ret (GxR.pe_allS hr (by rfl) b.all PyProof.Rows.boot_all TB rfl (by exact ⟨rfl, rfl, by decide +kernel, rfl, rfl, fun y hy e => absurd e ((by decide +kernel : ∀ y ∈ _, y.2 ≠ NameKind.free) y hy)⟩) (pv 0) (elt_between rfl rfl) fun v => rfl))), ?_⟩
  refine ⟨_, rfl, _, _, _, _, true, rfl, .ty _, .base (.str _), kit_str_str, true, rfl, iteF ?_⟩
  refine ⟨_, rfl, _, rfl, Nat.le_of_lt (small1000 hz), _, _, rfl, rfl, _, rfl, ?_⟩
  have bad : nameOk z = false → Q (.bl false) H := fun e => by
    have q := k H (Sm.refl H)
    rw [e] at q
    exact q
  by_cases c1 : (1 : Int) ≤ (z.length : Int)
  · rw [decide_eq_true c1]
    refine iteT ⟨_, _, rfl, rfl, _, rfl, ?_⟩
    by_cases c2 : (z.length : Int) ≤ 8
    · rw [decide_eq_true c2]
      refine iteF ⟨_, rfl, _, rfl, hT, fun H2 tb => ?_⟩
      have e : z.cps.toList.all (fun c => (!decide ([c] < ("a" : Str).cps.toList)) && !decide (("z" : Str).cps.toList < [c])) = nameOk z := by
        unfold nameOk
        rw [decide_eq_true (show 1 ≤ z.length by omega), decide_eq_true (show z.length ≤ 8 by omega)]
        show _ = z.cps.toList.all _
        exact congrArg _ (funext az_sign)
      have q := k H2 (Sm.tabbed hT tb)
      rw [← e] at q
      exact q
    · rw [decide_eq_false c2]
      refine iteT (bad ?_)
      unfold nameOk
      rw [decide_eq_false (show ¬ z.length ≤ 8 by omega), Bool.and_false, Bool.false_and]
  · rw [decide_eq_false c1]
    refine iteF ⟨_, rfl, iteT (bad ?_)⟩
    unfold nameOk
    rw [decide_eq_false (show ¬ 1 ≤ z.length by omega), Bool.false_and, Bool.false_and]
end
end Hf
set_option Elab.async false
set_option maxRecDepth 100000
set_option maxHeartbeats 4000000
namespace Hf
open PySem L2
theorem ix1 {a b c d : V} : atI [a, b, c, d] 1 = some b := rfl
theorem ix3 {a b c d : V} : atI [a, b, c, d] 3 = some d := rfl
def Tr.ps : Tr → Ps
  | .leaf _ _ => .nil
  | .node _ _ ps => ps
def Tr.st : Tr → Option Int
  | .leaf _ st => st
  | .node _ _ _ => none
def Tr.kind : Tr → Str
  | .leaf _ _ => "leaf"
  | .node b _ _ => kindS b
theorem Tr.names_eq : ∀ t : Tr, t.names = t.nm :: t.ps.names
  | .leaf _ _ => rfl
  | .node _ _ _ => rfl
theorem Tr.lev_eq : ∀ t : Tr, t.lev = t.ps.lev + 1
  | .leaf _ _ => rfl
  | .node _ _ _ => rfl
theorem TrAt.shape {H : Hp} : ∀ {t : Tr} {v : V}, TrAt H t v → ∃ a e xs, v = .ref a ∧ H a = some (.tup [.str t.kind, .str t.nm, stV t.st, .ref e]) ∧ H e = some (.tup xs) ∧ PsAt H t.ps xs
  | .leaf n st, v, h => by
    obtain ⟨a, e, h1, h2, h3⟩ := h
    exact ⟨a, e, [], h1, h2, h3, rfl⟩
  | .node b n ps, v, h => by
    obtain ⟨a, e, xs, h1, h2, h3, h4⟩ := h
    exact ⟨a, e, xs, h1, h2, h3, h4⟩
theorem names_mem {p : Ps} {w : Int} {t : Tr} (h : (w, t) ∈ p.toL) : t.names.length ≤ p.names.length := by
  rw [Ps.names_toL]
  obtain ⟨l1, l2, e⟩ := List.append_of_mem h
  rw [e, List.flatMap_append, List.flatMap_cons]
  simp only [List.length_append]
  omega
theorem names_take {p : Ps} (i : Nat) : ((p.toL.take i).flatMap (fun x => x.2.names)).length ≤ p.names.length := by
  rw [Ps.names_toL]
  conv => rhs; rw [← List.take_append_drop i p.toL]
  rw [List.flatMap_append, List.length_append]
  omega
theorem take_snoc {α : Type} {l : List α} {i : Nat} {x : α} (h : l[i]? = some x) : l.take (i + 1) = l.take i ++ [x] := by
  rw [List.take_add_one, h]
  rfl
theorem get_lt {α : Type} {l : List α} {i : Nat} {x : α} (h : l[i]? = some x) : i < l.length := (List.getElem?_eq_some_iff.mp h).1
def spNamesIn (n : Nat) : Sp := fun vs H Q _ => ∃ (v : V) (t : Tr), vs = [v] ∧ TrAt H t v ∧ t.lev ≤ n ∧ t.names.length ≤ 1000 ∧
  ∀ (p : Addr) (H' : Hp), Sm H H' → H p = none → H' p = some (.lst (t.names.map V.str)) → Q (.ref p) H'
def spLevels (n : Nat) : Sp := fun vs H Q _ => ∃ (v : V) (t : Tr), vs = [v] ∧ TrAt H t v ∧ t.lev ≤ n ∧ ∀ H' : Hp, Sm H H' → Q (.int (t.lev : Nat)) H'
section
variable {P : Program} {w : World} {K : PySem.W.Frag} {mg : Str → Option Value} {base : Heap}
theorem none_lev {f : Addr} {fd : FuncData} {ps : List Str} {sp : Sp} (no : ∀ vs H Q E, ¬ sp vs H Q E) : FnOk P w K mg base CX0 0 f fd ps sp :=
  ⟨fun vs H Q E h => absurd h (no vs H Q E), fun A outer s H args us vs Q E _ _ _ _ h => absurd h (no vs H Q E)⟩
theorem Tr.lev_pos (t : Tr) : 1 ≤ t.lev := by rw [Tr.lev_eq]; omega
theorem ok_namesIn {f : Addr} {fd : FuncData} (D : Gf K mg "names_in" sNamesIn ["tree"] f fd) : ∀ n : Nat, FnOk P w K mg base CX0 n f fd ["tree"] (spNamesIn n)
  | 0 => none_lev fun vs H Q E ⟨v, t, _, _, h, _⟩ => by have := t.lev_pos; omega
  | n + 1 => by
    have G : FnOk P w K mg base CX0 n f fd ["tree"] (spNamesIn n) := ok_namesIn D n
    refine D.F.ok scNamesIn (fun vs H Q E h => ?_) (fun cdv A outer s H vs Q E hr h => ?_)
    · obtain ⟨v, t, rfl, _⟩ := h
      rfl
    obtain ⟨v, t, rfl, hv, hl, hn, k⟩ := h
    obtain ⟨a, e, xs, rfl, h1, h2, h3⟩ := hv.shape
    refine ⟨_, pss_cons (ps_set (i := 1) scNamesIn.nd rfl (.inl rfl) (pe_lst (pa_cons (pe_ix ix_tup (pv 0) pe_int (fun _ _ => rfl)) pa_nil)))
      (pss_cons (ps_for PassesOwn.never rfl (pi_tup (pe_ix ix_tup (pv 0) pe_int (fun _ _ => rfl))) (pg_tup rfl (pgs_cons (pg_name (i := 2) scNamesIn.nd rfl (.inl rfl)) (pgs_cons (pg_name (i := 3) scNamesIn.nd rfl (.inl rfl)) pgs_nil)))
        (pss_one (ps_expr (pe_bm PySem.F.plainAttrs_list PySem.F.slot_list_extend PySem.F.type_list_extend mt_extend (pv 1) (pa_cons (pe_call G hr (by rfl) D.m D.F.kp D.b .nil pass0 (pa_cons (pv 3) pa_nil)) pa_nil)))))
      (pss_one (ps_ret (pv 1)))), ?_⟩
    refine ⟨_, rfl, a, _, _, _, rfl, rfl, SqT.of h1, ix1, by show 1 ≤ sizeLine; decide, fun p hp => ?_⟩
    have nap : a ≠ p := ne_of_none h1 hp
    have nep : e ≠ p := ne_of_none h2 hp
    refine ⟨_, rfl, a, _, _, _, rfl, rfl, SqT.of (by rw [upd_ne nap]; exact h1), ix3, e, rfl, ⟨_, SqT.of (by rw [upd_ne nep]; exact h2)⟩, for_tup (K := K) (a := e) (xs := xs)
      (fun i σ H1 => ∃ x4 x5 : Option V, σ = [some (.ref a), some (.ref p), x4, x5] ∧ Sm H H1 ∧ H1 p = some (.lst ((t.nm :: (t.ps.toL.take i).flatMap (fun x => x.2.names)).map V.str)))
      ⟨none, none, rfl, Sm.new hp, upd_same⟩ (fun i σ H1 _ hh => ?_) ?_ ?_⟩
    · obtain ⟨_, _, _, sm, _⟩ := hh
      exact SqT.of (sm.tup h2)
    · rintro i x σ H1 hx ⟨x4, x5, rfl, sm, hL⟩
      obtain ⟨wt, t', q, v', g1, rfl, g2, g3⟩ := h3.get hx
      have mem := List.mem_of_getElem? g1
      have lv : t'.lev ≤ n := by
        have z1 := Ps.lev_mem mem
        have z2 := t.lev_eq
        omega
      have nm1 : t'.names.length ≤ t.ps.names.length := names_mem mem
      have nm2 : t.names.length = t.ps.names.length + 1 := by rw [t.names_eq]; rfl
      refine ⟨q, _, rfl, SqT.of (sm.tup g2), rfl, _, _, rfl, _, _, rfl, rfl, ?_⟩
      refine ⟨_, rfl, .inl ⟨rfl, _, SqL.of hL⟩, _, rfl, v', t', rfl, g3.mono sm, lv, by omega, fun r H2 sm2 nr hr2 => ?_⟩
      have hL2 := sm2.lst hL
      refine ⟨p, r, _, _, rfl, rfl, hL2, hr2, ?_, ?_⟩
      · have z := names_take (p := t.ps) i
        refine Nat.le_of_lt (small1000 ?_)
        rw [List.length_map, List.length_map, List.length_cons]
        have z2 : ((t.ps.toL.take (i + 1)).flatMap (fun x => x.2.names)).length ≤ t.ps.names.length := names_take (i + 1)
        rw [take_snoc g1, List.flatMap_append, List.length_append, List.flatMap_cons, List.flatMap_nil, List.append_nil] at z2
        dsimp only at z2
        omega
      · refine ⟨_, _, rfl, (sm.trans sm2).put hp, ?_⟩
        rw [upd_same, take_snoc g1, List.flatMap_append, List.flatMap_cons, List.flatMap_nil, List.append_nil, ← List.map_append]
        rfl
    · rintro σ H1 ⟨x4, x5, rfl, sm, hL⟩
      refine ⟨_, rfl, k p H1 sm hp ?_⟩
      rw [hL, h3.length, List.take_length, ← Ps.names_toL, ← t.names_eq]
theorem ok_levels {f : Addr} {fd : FuncData} (D : Gf K mg "levels" sLevels ["tree"] f fd) (b : Bi mg) : ∀ n : Nat, FnOk P w K mg base CX0 n f fd ["tree"] (spLevels n)
  | 0 => none_lev fun vs H Q E ⟨v, t, _, _, h, _⟩ => by have := t.lev_pos; omega
  | n + 1 => by
    have G : FnOk P w K mg base CX0 n f fd ["tree"] (spLevels n) := ok_levels D b n
    refine D.F.ok scLevels (fun vs H Q E h => ?_) (fun cdv A outer s H vs Q E hr h => ?_)
    · obtain ⟨v, t, rfl, _⟩ := h
      rfl
    obtain ⟨v, t, rfl, hv, hl, k⟩ := h
    obtain ⟨a, e, xs, rfl, h1, h2, h3⟩ := hv.shape
    refine ⟨_, pss_cons (ps_set (i := 1) scLevels.nd rfl (.inl rfl) pe_int)
      (pss_cons (ps_for PassesOwn.never rfl (pi_tup (pe_ix ix_tup (pv 0) pe_int (fun _ _ => rfl))) (pg_tup rfl (pgs_cons (pg_name (i := 2) scLevels.nd rfl (.inl rfl)) (pgs_cons (pg_name (i := 3) scLevels.nd rfl (.inl rfl)) pgs_nil)))
        (pss_one (ps_set (i := 1) scLevels.nd rfl (.inl rfl) (pe_callB (call_max2 rfl) (by rfl) b.max PyProof.Rows.boot_max (pa_cons (pv 1) (pa_cons (pe_call G hr (by rfl) D.m D.F.kp D.b .nil pass0 (pa_cons (pv 3) pa_nil)) pa_nil))))))
      (pss_one (ps_ret (pe_op op_add (pv 1) pe_int)))), ?_⟩
    refine ⟨_, rfl, a, _, _, _, rfl, rfl, SqT.of h1, ix3, e, rfl, ⟨_, SqT.of h2⟩, for_tup (K := K) (a := e) (xs := xs)
      (fun i σ H1 => ∃ x4 x5 : Option V, σ = [some (.ref a), some (.int ((t.ps.toL.take i).foldl (fun d x => max d x.2.lev) 0 : Nat)), x4, x5] ∧ Sm H H1)
      ⟨none, none, rfl, Sm.refl H⟩ (fun i σ H1 _ hh => ?_) ?_ ?_⟩
    · obtain ⟨_, _, _, sm⟩ := hh
      exact SqT.of (sm.tup h2)
    · rintro i x σ H1 hx ⟨x4, x5, rfl, sm⟩
      obtain ⟨wt, t', q, v', g1, rfl, g2, g3⟩ := h3.get hx
      have lv : t'.lev ≤ n := by
        have z1 := Ps.lev_mem (List.mem_of_getElem? g1)
        have z2 := t.lev_eq
        omega
      refine ⟨q, _, rfl, SqT.of (sm.tup g2), rfl, _, _, rfl, _, _, rfl, rfl, ?_⟩
      refine ⟨_, rfl, _, rfl, v', t', rfl, g3.mono sm, lv, fun H2 sm2 => ⟨_, _, rfl, ?_⟩⟩
      refine ⟨some (.int wt), some v', ?_, sm.trans sm2⟩
      rw [take_snoc g1, List.foldl_append]
      have e : ∀ d l : Nat, (if (l : Int) > (d : Int) then (l : Int) else (d : Int)) = ((max d l : Nat) : Int) := fun d l => by split <;> omega
      rw [e]
      rfl
    · rintro σ H1 ⟨x4, x5, rfl, sm⟩
      refine ⟨_, rfl, _, _, rfl, rfl, ?_⟩
      have q := k H1 sm
      have e : ((t.lev : Nat) : Int) = (((t.ps.toL.take xs.length).foldl (fun d x => max d x.2.lev) 0 : Nat) : Int) + 1 := by
        rw [h3.length, List.take_length, ← Ps.lev_toL, t.lev_eq]
        rfl
      rw [e] at q
      exact q
def spPlan (n : Nat) : Sp := fun vs H Q _ => ∃ (v : V) (t : Tr), vs = [v] ∧ TrAt H t v ∧ t.lev ≤ n ∧ t.names.length < 1000 ∧ ∀ H' : Hp, Sm H H' → Q (.bl (planOk t)) H'
theorem ok_plan {f fN fL : Addr} {fd fdN fdL : FuncData} (D : Gf K mg "is_plan" sIsPlan ["tree"] f fd) (N : Gf K mg "names_in" sNamesIn ["tree"] fN fdN) (L : Gf K mg "levels" sLevels ["tree"] fL fdL) (b : Bi mg) (c : Co mg) (n : Nat) :
    FnOk P w K mg base CX0 (n + 1) f fd ["tree"] (spPlan n) := by
  have GN : FnOk P w K mg base CX0 n fN fdN ["tree"] (spNamesIn n) := ok_namesIn N n
  have GL : FnOk P w K mg base CX0 n fL fdL ["tree"] (spLevels n) := ok_levels L b n
  refine D.F.ok scIsPlan (fun vs H Q E h => ?_) (fun cdv A outer s H vs Q E hr h => ?_)
  · obtain ⟨v, t, rfl, _⟩ := h
    rfl
  obtain ⟨v, t, rfl, hv, hl, hn, k⟩ := h
  obtain ⟨t1, m1⟩ := c.works
  obtain ⟨t2, m2⟩ := c.within
  refine ⟨_, pss_cons (ps_set (i := 1) scIsPlan.nd rfl (.inl rfl) (pe_call GN hr (by rfl) N.m N.F.kp N.b .nil pass0 (pa_cons (pv 0) pa_nil)))
    (pss_one (ps_ret (pe_and (pe_cmpR op_le (pe_callB call_len_seq (by rfl) b.len PySem.boot_len (pa_cons (pv 1) pa_nil)) (pe_glob (v := .int 20) (by rfl) m1 ⟨_, rfl⟩) (nomark _))
      (pe_and (pe_cmpR op_eq (pe_lenT rfl (by rfl) b.len (by rfl) b.set (pv 1)) (pe_callB call_len_seq (by rfl) b.len PySem.boot_len (pa_cons (pv 1) pa_nil)) (nomark _))
      (pe_one (pe_cmpR op_le (pe_call GL hr (by rfl) L.m L.F.kp L.b .nil pass0 (pa_cons (pv 0) pa_nil)) (pe_glob (v := .int 5) (by rfl) m2 ⟨_, rfl⟩) (nomark _))))))), ?_⟩
  refine ⟨_, rfl, v, t, rfl, hv, hl, by omega, fun p H1 sm np hp => ?_⟩
  refine ⟨_, rfl, p, _, rfl, .inl (SqL.of hp), _, _, rfl, rfl, _, rfl, ?_⟩
  rw [List.length_map]
  have no : ∀ H', Sm H H' → planOk t = false → Q (.bl false) H' := fun H' sm' e => by
    have q := k H' sm'
    rw [e] at q
    exact q
  by_cases c1 : ((t.names.length : Nat) : Int) ≤ 20
  · rw [decide_eq_true c1]
    refine iteT ⟨_, rfl, p, t.names, rfl, SqL.of hp, hn, _, rfl, p, _, rfl, .inl (SqL.of hp), rfl, _, rfl, ?_⟩
    rw [List.length_map]
    by_cases c2 : t.names.Nodup
    · have e2 := (setT_nodup t.names).mpr c2
      rw [e2, decide_eq_true (p := V.int _ = V.int _) rfl]
      refine iteT ⟨_, rfl, v, t, rfl, hv.mono sm, hl, fun H2 sm2 => ⟨_, _, rfl, rfl, ?_⟩⟩
      have q := k H2 (sm.trans sm2)
      have e : planOk t = decide (((t.lev : Nat) : Int) ≤ 5) := by
        unfold planOk
        rw [decide_eq_true (show t.names.length ≤ 20 by omega), decide_eq_true c2, Bool.true_and, Bool.true_and]
        by_cases c3 : t.lev ≤ 5
        · rw [decide_eq_true c3, decide_eq_true (show ((t.lev : Nat) : Int) ≤ 5 by omega)]
        · rw [decide_eq_false c3, decide_eq_false (show ¬ ((t.lev : Nat) : Int) ≤ 5 by omega)]
      rw [e] at q
      exact q
    · have e2 : (setT t.names).2 ≠ t.names.length := fun z => c2 ((setT_nodup t.names).mp z)
      rw [decide_eq_false (fun z : V.int ((setT t.names).2 : Nat) = V.int (t.names.length : Nat) => e2 (by have := V.int.inj z; omega))]
      refine iteF (no H1 sm ?_)
      unfold planOk
      rw [decide_eq_false c2, Bool.and_false, Bool.false_and]
  · rw [decide_eq_false c1]
    refine iteF (no H1 sm ?_)
    unfold planOk
    rw [decide_eq_false (show ¬ t.names.length ≤ 20 by omega), Bool.false_and, Bool.false_and]
end
end Hf
set_option Elab.async false
set_option maxRecDepth 100000
set_option maxHeartbeats 4000000
namespace Hf
open PySem L2
/-! ## works: instances -/
/-- all but p stays -/
structure Sb (p : Addr) (H H' : Hp) : Prop where
  keep : ∀ b o, b ≠ p → H b = some o → NTb o → H' b = some o
  tab : ∀ b q, H b = some (.tbl q) → ∃ q', H' b = some (.tbl q') ∧ (PySem.TriplesOk q.toList → PySem.TriplesOk q'.toList)
theorem made0 {H : Hp} {x dx : Addr} {o : HO} (hx : H x = Option.none) (hd : H dx = Option.none) : Sm H (upd (upd H dx (.own x)) x o) := (Sm.new hd).put hx
theorem made {H H2 : Hp} {x dx : Addr} {o : HO} (hx : H x = Option.none) (hd : H dx = Option.none) (s : Sb x (upd (upd H dx (.own x)) x o) H2) : Sm H H2 :=
  ⟨fun b u q n => s.keep b u (ne_of_none q hx) (by rw [upd_ne (ne_of_none q hx), upd_ne (ne_of_none q hd)]; exact q) n,
   fun b q e => s.tab b q (by rw [upd_ne (ne_of_none e hx), upd_ne (ne_of_none e hd)]; exact e)⟩
theorem Sm.sb {H H' : Hp} (s : Sm H H') {p : Addr} {o : HO} (hp : ∀ q, H p ≠ some (.tbl q)) : Sb p H (upd H' p o) :=
  ⟨fun b u hb q n => by rw [upd_ne hb]; exact s.keep b u q n, fun b q e => by
    have hb : b ≠ p := fun z => hp q (by rw [← z]; exact e)
    obtain ⟨q', h1, h2⟩ := s.tab b q e
    exact ⟨q', by rw [upd_ne hb]; exact h1, h2⟩⟩
/-- the classes -/
structure Cs where
  W : Addr
  L : Addr
  R : Addr
  B : Addr
def Cs.of (c : Cs) : Tr → Addr
  | .leaf _ _ => c.L
  | .node true _ _ => c.R
  | .node false _ _ => c.B
abbrev tf (v : V) : List (Str × V) := [("_tree", v)]
def WkAt (c : Cs) (H : Hp) (t : Tr) (v : V) : Prop := ∃ a dx tv, v = .ref a ∧ H a = some (.ins (c.of t) dx (tf tv)) ∧ TrAt H t tv
theorem WkAt.mono {c : Cs} {H H' : Hp} (e : Sm H H') {t : Tr} {v : V} (h : WkAt c H t v) : WkAt c H' t v := by
  obtain ⟨a, dx, tv, h1, h2, h3⟩ := h
  exact ⟨a, dx, tv, h1, e.ins h2, h3.mono e⟩
/-- pairs of weights and works -/
def PwAt (c : Cs) (H : Hp) (l : List (Int × Tr)) (xs : List V) : Prop := xs.length = l.length ∧ ∀ (i : Nat) (w : Int) (t : Tr), l[i]? = some (w, t) → ∃ (q : Addr) (v : V), xs[i]? = some (V.ref q) ∧ H q = some (.tup [.int w, v]) ∧ WkAt c H t v
theorem PwAt.mono {c : Cs} {H H' : Hp} (e : Sm H H') {l : List (Int × Tr)} {xs : List V} (h : PwAt c H l xs) : PwAt c H' l xs :=
  ⟨h.1, fun i w t z => let ⟨q, v, a, b, d⟩ := h.2 i w t z; ⟨q, v, a, e.tup b, d.mono e⟩⟩
theorem PwAt.get {c : Cs} {H : Hp} {l : List (Int × Tr)} {xs : List V} {i : Nat} {x : V} (h : PwAt c H l xs) (e : xs[i]? = some x) : ∃ (w : Int) (t : Tr) (q : Addr) (v : V), l[i]? = some (w, t) ∧ x = V.ref q ∧ H q = some (.tup [.int w, v]) ∧ WkAt c H t v := by
  have hi := get_lt e
  rw [h.1] at hi
  obtain ⟨q, v, a, b, d⟩ := h.2 i l[i].1 l[i].2 (by rw [List.getElem?_eq_getElem hi])
  rw [e] at a
  exact ⟨_, _, q, v, List.getElem?_eq_getElem hi, Option.some.inj a, b, d⟩
structure Kl (K : PySem.W.Frag) (mg : Str → Option Value) (c : Cs) : Prop where
  iL : IsC K c.L
  iR : IsC K c.R
  iB : IsC K c.B
  ik : IsK K
  nL : NoAttr K c.L "_tree"
  nR : NoAttr K c.R "_tree"
  nB : NoAttr K c.B "_tree"
  mL : mg "Leaf" = some (.ref c.L)
  mR : mg "Row" = some (.ref c.R)
  mB : mg "Bundle" = some (.ref c.B)
  kL : PySem.W.kitAny K (.ref c.L) [.ref c.L, .ref c.R, .ref c.B] = some true
  kR : PySem.W.kitAny K (.ref c.R) [.ref c.L, .ref c.R, .ref c.B] = some true
  kB : PySem.W.kitAny K (.ref c.B) [.ref c.L, .ref c.R, .ref c.B] = some true
theorem Kl.isC {K : PySem.W.Frag} {mg : Str → Option Value} {c : Cs} (k : Kl K mg c) : ∀ t : Tr, IsC K (c.of t)
  | .leaf _ _ => k.iL
  | .node true _ _ => k.iR
  | .node false _ _ => k.iB
theorem Kl.no {K : PySem.W.Frag} {mg : Str → Option Value} {c : Cs} (k : Kl K mg c) : ∀ t : Tr, NoAttr K (c.of t) "_tree"
  | .leaf _ _ => k.nL
  | .node true _ _ => k.nR
  | .node false _ _ => k.nB
theorem Kl.kit {K : PySem.W.Frag} {mg : Str → Option Value} {c : Cs} (k : Kl K mg c) : ∀ t : Tr, PySem.W.kitAny K (.ref (c.of t)) [.ref c.L, .ref c.R, .ref c.B] = some true
  | .leaf _ _ => k.kL
  | .node true _ _ => k.kR
  | .node false _ _ => k.kB
def spTreeOf (c : Cs) : Sp := fun vs H Q _ => ∃ (v : V) (t : Tr), vs = [v] ∧ WkAt c H t v ∧ ∀ tv, TrAt H t tv → Q tv H
def spLeafInit (c : Cs) (T : Addr) : Sp := fun vs H Q _ => ∃ (p dx : Addr) (nm : Str) (st : Option Int), vs = [.ref p, .str nm, stV st] ∧ H p = some (.ins c.L dx []) ∧ nameOk nm = true ∧ stOk st = true ∧ Tab H T ∧
  ∀ (H' : Hp) (tv : V), Sb p H H' → H' p = some (.ins c.L dx (tf tv)) → TrAt H' (.leaf nm st) tv → Q .non H'
theorem nameOk_len {z : Str} (h : nameOk z = true) : z.length ≤ 8 := by
  unfold nameOk at h
  rw [Bool.and_eq_true, Bool.and_eq_true] at h
  exact of_decide_eq_true h.1.2
section
variable {P : Program} {w : World} {K : PySem.W.Frag} {mg : Str → Option Value} {base : Heap}
theorem ok_treeOf {f : Addr} {fd : FuncData} {c : Cs} (D : Gf K mg "tree_of" sTreeOf ["work"] f fd) (k : Kl K mg c) : FnOk P w K mg base CX0 1 f fd ["work"] (spTreeOf c) := by
  refine D.F.ok scTreeOf (fun vs H Q E h => ?_) (fun cdv A outer s H vs Q E hr h => ?_)
  · obtain ⟨v, t, rfl, _⟩ := h
    rfl
  obtain ⟨v, t, rfl, ⟨a, dx, tv, rfl, h1, h2⟩, q⟩ := h
  refine ⟨_, pss_one (ps_ret (pe_fld (pv 0) rfl)), ?_⟩
  exact ⟨_, rfl, a, c.of t, dx, _, tv, rfl, h1, (k.isC t).cl, k.no t, rfl, q tv h2⟩
structure Nm (K : PySem.W.Frag) (mg : Str → Option Value) (base : Heap) (T : Addr) (f1 f2 f3 f4 : Addr) (fd1 fd2 fd3 fd4 : FuncData) : Prop where
  name : Gt K mg base "is_name" sIsName ["value"] f1 fd1 T
  steps : Gf K mg "is_steps" sIsSteps ["value"] f2 fd2
  count : Gf K mg "is_count" sIsCount ["value"] f3 fd3
  number : Gd K mg "is_number" sIsNumber [.non] f4 fd4
/-- Leaf's own making: one default -/
abbrev LeafF (K : PySem.W.Frag) (f : Addr) (fd : FuncData) : Prop := FunD K "__init__" "Leaf.__init__" (defArgs sLeafInit) (defBody sLeafInit) (defScope sLeafInit) [.non] [] f fd
theorem leaf_b3 {f : Addr} {fd : FuncData} (F : LeafF K f fd) : Binds K fd ["self", "name", "steps"] [] := by
  obtain ⟨ds, r, b⟩ := FunD.binds1 (ps := ["self", "name", "steps"]) F 3 1 (by simp) rfl fun T kV doc pm an cdv ct us its hl hi => match us, hl, its, hi with
    | [_, _, _], _, [_], _ => ⟨_, rfl, rfl⟩
  cases (show Vals [] ds from r)
  exact b
theorem leaf_b2 {f : Addr} {fd : FuncData} (F : LeafF K f fd) : Binds K fd ["self", "name", "steps"] [.none] := by
  obtain ⟨ds, r, b⟩ := FunD.binds1 (ps := ["self", "name", "steps"]) F 2 0 (by simp) rfl fun T kV doc pm an cdv ct us its hl hi => match us, hl, its, hi with
    | [_, _], _, [_], _ => ⟨_, rfl, rfl⟩
  cases (show Vals [.non] ds from r) with
  | cons r1 r2 =>
    cases r2
    cases r1
    exact b
theorem leaf_bk {f : Addr} {fd : FuncData} (F : LeafF K f fd) : ∃ its : List Value, KBn K fd ["self", "name", "steps"] 2 ["steps"] (fun us ws => us ++ ws) (fun vs zs => vs ++ zs) := by
  obtain ⟨its, b⟩ := FunD.kbindsD (ps := ["self", "name", "steps"]) F 2 ["steps"] (fun us _ ws => us ++ ws) (by simp) (fun a _ c => a.append c) fun T kV doc pm an cdv ct us its ws hl hi hw => match us, hl, its, hi, ws, hw with
    | [_, _], _, [_], _, [_], _ => ⟨_, rfl, rfl⟩
  exact ⟨its, b⟩
theorem ok_leafInit {f f1 f2 f3 f4 T : Addr} {fd fd1 fd2 fd3 fd4 : FuncData} {c : Cs} (F : LeafF K f fd) (N : Nm K mg base T f1 f2 f3 f4 fd1 fd2 fd3 fd4) (b : Bi mg) (co : Co mg) (k : Kl K mg c) :
    FnOk P w K mg base CX0 4 f fd ["self", "name", "steps"] (spLeafInit c T) := by
  have G1 : FnOk P w K mg base CX0 2 f1 fd1 ["value"] (spName T) := ok_name N.name b co
  have G2 : FnOk P w K mg base CX0 3 f2 fd2 ["value"] spSteps := ok_steps N.steps N.count N.number b co
  refine FunD.ok F scLeafInit (fun vs H Q E h => ?_) (fun cdv A outer s H vs Q E hr h => ?_)
  · obtain ⟨p, dx, nm, st, rfl, _⟩ := h
    rfl
  obtain ⟨p, dx, nm, st, rfl, hp, o1, o2, hT, q⟩ := h
  obtain ⟨t, hm⟩ := co.leaf
  refine ⟨_, pss_cons (ps_if (pt_not (pt_val (pe_call G1 (hr.mono (by decide)) (by rfl) N.name.g.m N.name.g.F.kp N.name.g.b .nil pass0 (pa_cons (pv 1) pa_nil)))) (pss_one ps_never) pss_nil)
    (pss_cons (ps_if (pt_not (pt_val (pe_call G2 hr (by rfl) N.steps.m N.steps.F.kp N.steps.b .nil pass0 (pa_cons (pv 2) pa_nil)))) (pss_one ps_never) pss_nil)
    (pss_one (ps_fld (pv 0) (pe_tup (pa_cons (pe_glob (v := .str "leaf") (by rfl) hm ⟨_, rfl⟩) (pa_cons (pv 1) (pa_cons (pv 2) (pa_cons (pe_tup pa_nil) pa_nil))))) rfl))), ?_⟩
  refine ⟨_, rfl, nm, rfl, by have := nameOk_len o1; omega, hT, fun H1 sm => ⟨_, rfl, ?_⟩⟩
  rw [o1]
  refine iteF ⟨_, rfl, st, rfl, _, rfl, ?_⟩
  rw [o2]
  refine iteF ⟨_, rfl, _, rfl, by show 0 ≤ sizeLine; decide, fun e he => ⟨by show 4 ≤ sizeLine; decide, fun a ha => ?_⟩⟩
  have nea : e ≠ a := fun z => by rw [← z, upd_same] at ha; cases ha
  have hp1 : H1 p = some (.ins c.L dx []) := sm.ins hp
  have npe : p ≠ e := ne_of_none hp1 he
  have npa : p ≠ a := ne_of_none (H := upd H1 e (.tup [])) (by rw [upd_ne npe]; exact hp1) ha
  refine ⟨_, rfl, p, c.L, dx, [], rfl, by rw [upd_ne npa, upd_ne npe]; exact hp1, k.iL.cl, k.nL, by show 0 < 1000; decide, ?_⟩
  have sm2 : Sm H (upd (upd H1 e (.tup [])) a (.tup [.str "leaf", .str nm, stV st, .ref e])) := sm.trans ((Sm.new he).trans (Sm.new ha))
  refine q _ (.ref a) (sm2.sb fun z w => by rw [hp] at w; cases w) ?_ ⟨a, e, rfl, ?_, ?_⟩
  · exact upd_same
  · rw [upd_ne npa.symm, upd_same]
  · rw [upd_ne npe.symm, upd_ne nea, upd_same]
def spPart (c : Cs) : Sp := fun vs H Q _ => ∃ (q : Addr) (w : Int) (v : V) (t : Tr), vs = [.ref q] ∧ H q = some (.tup [.int w, v]) ∧ WkAt c H t v ∧ ∀ H', Sm H H' → Q (.bl (numOk 1 100 w)) H'
def spIsWork (c : Cs) : Sp := fun vs H Q _ => ∃ (v : V) (t : Tr), vs = [v] ∧ WkAt c H t v ∧ ∀ H', Sm H H' → Q (.bl true) H'
theorem ok_isWork {f : Addr} {fd : FuncData} {c : Cs} (D : Gf K mg "is_work" sIsWork ["value"] f fd) (b : Bi mg) (k : Kl K mg c) :
    FnOk P w K mg base CX0 1 f fd ["value"] (spIsWork c) := by
  refine D.F.ok scIsWork (fun vs H Q E h => ?_) (fun cdv A outer s H vs Q E hr h => ?_)
  · obtain ⟨v, t, rfl, _⟩ := h
    rfl
  obtain ⟨v, t, rfl, ⟨a, dx, tv, rfl, ha, ht⟩, z⟩ := h
  refine ⟨_, (pss_one (ps_ret (pe_callB call_isiT (by rfl) b.isinstance b_isi (pa_cons (pv 0) (pa_cons (pe_tup (pa_cons (pe_glob (v := .ref c.L) (by rfl) k.mL rfl) (pa_cons (pe_glob (v := .ref c.R) (by rfl) k.mR rfl) (pa_cons (pe_glob (v := .ref c.B) (by rfl) k.mB rfl) pa_nil)))) pa_nil))))), ?_⟩
  refine ⟨_, rfl, by show 3 ≤ sizeLine; decide, fun p np => ?_⟩
  have s1 := Sm.new (o := .tup [.ref c.L, .ref c.R, .ref c.B]) np
  exact ⟨_, p, _, _, _, true, rfl, upd_same, .cons (.own _) (.cons (.own _) (.cons (.own _) .nil)), .base (.ins (s1.ins ha) (k.isC t).cl (k.isC t).ha k.ik.hn k.ik.htk (k.isC t).hm), k.kit t, z _ s1⟩
theorem ok_part {f fW fN fI : Addr} {fd fdW fdN fdI : FuncData} {c : Cs} (D : Gf K mg "is_part" sIsPart ["value"] f fd) (DIsWork : Gf K mg "is_work" sIsWork ["value"] fI fdI) (DIsWeight : Gf K mg "is_weight" sIsWeight ["value"] fW fdW) (N : Gd K mg "is_number" sIsNumber [.non] fN fdN) (b : Bi mg) (co : Co mg) (k : Kl K mg c) :
    FnOk P w K mg base CX0 3 f fd ["value"] (spPart c) := by
  have GIsWeight : FnOk P w K mg base CX0 2 fW fdW ["value"] (spCount 1 100) := ok_weight DIsWeight N b co
  have GIsWork : FnOk P w K mg base CX0 1 fI fdI ["value"] (spIsWork c) := ok_isWork DIsWork b k
  refine D.F.ok scIsPart (fun vs H Q E h => ?_) (fun cdv A outer s H vs Q E hr h => ?_)
  · obtain ⟨q, w, v, t, rfl, _⟩ := h
    rfl
  obtain ⟨q, w, v, t, rfl, hq, ⟨a, dx, tv, rfl, ha, ht⟩, z⟩ := h
  refine ⟨_, (pss_cons (ps_if (PW.pt (pw_or (pt_not (pt_val (pe_callB call_isi (by rfl) b.isinstance b_isi (pa_cons (pv 0) (pa_cons (pe_bltn (v := .ty "tuple") (by rfl) b.tuple b_tuple rfl) pa_nil))))) (pw_or1 (pt_cmpR op_ne (pe_callB call_len_seq (by rfl) b.len PySem.boot_len (pa_cons (pv 0) pa_nil)) pe_int (nomark _))))) (pss_one (ps_ret pe_bl)) pss_nil) (pss_one (ps_ret (pe_and (pe_call GIsWeight (hr.mono (by decide)) (by rfl) DIsWeight.m DIsWeight.kp DIsWeight.b .nil pass0 (pa_cons (pe_ix ix_tup (pv 0) pe_int (fun _ _ => rfl)) pa_nil)) (pe_one (pe_call GIsWork (hr.mono (by decide)) (by rfl) DIsWork.m DIsWork.kp DIsWork.b .nil pass0 (pa_cons (pe_ix ix_tup (pv 0) pe_int (fun _ _ => rfl)) pa_nil))))))), ?_⟩
  have l0 : atI [V.int w, V.ref a] 0 = some (.int w) := atI_nat (j := 0) rfl
  have l1 : atI [V.int w, V.ref a] 1 = some (.ref a) := atI_nat (j := 1) rfl
  refine ⟨_, rfl, _, _, _, _, true, rfl, .ty _, .base (.tup hq), kit_tup_tup, true, rfl, iteF ?_⟩
  refine ⟨_, rfl, q, _, rfl, .inr (SqT.of hq), rfl, _, rfl, ?_⟩
  rw [decide_eq_true (p := V.int (([V.int w, V.ref a] : List V).length : Nat) = V.int 2) rfl]
  refine iteF ⟨_, rfl, q, _, _, _, rfl, rfl, SqT.of hq, l0, w, rfl, _, rfl, ?_⟩
  cases e : numOk 1 100 w with
  | false =>
    rw [e] at z
    exact iteF (z H (Sm.refl H))
  | true =>
    rw [e] at z
    exact iteT ⟨_, rfl, q, _, _, _, rfl, rfl, SqT.of hq, l1, .ref a, t, rfl, ⟨a, dx, tv, rfl, ha, ht⟩, fun H' s' => z H' s'⟩
end
end Hf
set_option Elab.async false
set_option maxRecDepth 100000
set_option maxHeartbeats 4000000
namespace Hf
open PySem L2
/-- tuples stay -/
def Tp (H H' : Hp) : Prop := ∀ b xs, H b = some (.tup xs) → H' b = some (.tup xs)
theorem Sm.tp {H H' : Hp} (s : Sm H H') : Tp H H' := fun _ _ h => s.tup h
theorem Tp.trans {H H1 H2 : Hp} (a : Tp H H1) (b : Tp H1 H2) : Tp H H2 := fun _ _ h => b _ _ (a _ _ h)
theorem Tp.put {H : Hp} {D : Addr} {xs : List V} {o : HO} (h : H D = some (.lst xs)) : Tp H (upd H D o) := fun b ys e => by
  rw [upd_ne (ne_of e h (by intro z; cases z))]
  exact e
mutual
theorem TrAt.tp {H H' : Hp} (e : Tp H H') : ∀ {t : Tr} {v : V}, TrAt H t v → TrAt H' t v
  | .leaf n st, v, h => by
    obtain ⟨a, b, h1, h2, h3⟩ := h
    exact ⟨a, b, h1, e _ _ h2, e _ _ h3⟩
  | .node b n ps, v, h => by
    obtain ⟨a, c, xs, h1, h2, h3, h4⟩ := h
    exact ⟨a, c, xs, h1, e _ _ h2, e _ _ h3, PsAt.tp e h4⟩
theorem PsAt.tp {H H' : Hp} (e : Tp H H') : ∀ {p : Ps} {xs : List V}, PsAt H p xs → PsAt H' p xs
  | .nil, xs, h => h
  | .cons w t r, xs, h => by
    obtain ⟨p, v, ys, h1, h2, h3, h4⟩ := h
    exact ⟨p, v, ys, h1, e _ _ h2, TrAt.tp e h3, PsAt.tp e h4⟩
end
/-- the first i parts are made -/
def PtUp (H : Hp) (l : List (Int × Tr)) (i : Nat) (acc : List V) : Prop := acc.length = i ∧ ∀ (j : Nat) (w : Int) (t : Tr), j < i → l[j]? = some (w, t) → ∃ (q : Addr) (v : V), acc[j]? = some (V.ref q) ∧ H q = some (.tup [.int w, v]) ∧ TrAt H t v
theorem PtUp.tp {H H' : Hp} {l : List (Int × Tr)} {i : Nat} {acc : List V} (h : PtUp H l i acc) (e : Tp H H') : PtUp H' l i acc :=
  ⟨h.1, fun j w t a b => let ⟨q, v, c, d, f⟩ := h.2 j w t a b; ⟨q, v, c, e _ _ d, f.tp e⟩⟩
theorem PtUp.snoc {H : Hp} {l : List (Int × Tr)} {i : Nat} {acc : List V} (h : PtUp H l i acc) {w : Int} {t : Tr} {q : Addr} {v : V} (e : l[i]? = some (w, t)) (h1 : H q = some (.tup [.int w, v])) (h2 : TrAt H t v) : PtUp H l (i + 1) (acc ++ [V.ref q]) := by
  refine ⟨by rw [List.length_append, h.1]; rfl, fun j w' t' a b => ?_⟩
  by_cases hj : j = i
  · subst hj
    rw [e] at b
    cases b
    exact ⟨q, v, by rw [List.getElem?_append_right (by rw [h.1]; exact Nat.le_refl _), h.1, Nat.sub_self]; rfl, h1, h2⟩
  · obtain ⟨q', v', c, d, f⟩ := h.2 j w' t' (by omega) b
    exact ⟨q', v', by rw [List.getElem?_append_left (by rw [h.1]; omega)]; exact c, d, f⟩
theorem PtUp.all {H : Hp} {l : List (Int × Tr)} {acc : List V} (h : PtUp H l l.length acc) : PsAt H (Ps.ofL l) acc :=
  PsAt.of h.1 fun i w t e => h.2 i w t (get_lt e) e
def spElder (c : Cs) (T1 T2 : Addr) : Sp := fun vs H Q _ => ∃ (b : Bool) (nm : Str) (l : Addr) (xs : List V) (ps : List (Int × Tr)), vs = [.str (kindS b), .str nm, .ref l] ∧ H l = some (.lst xs) ∧ PwAt c H ps xs ∧ (Tr.node b nm (Ps.ofL ps)).Ok ∧ Tab H T1 ∧ Tab H T2 ∧
  ∀ (H' : Hp) (tv : V), Sm H H' → TrAt H' (.node b nm (Ps.ofL ps)) tv → Q tv H'
/-- the defs that a plan's making reaches -/
structure Df (K : PySem.W.Frag) (mg : Str → Option Value) (base : Heap) (T1 T2 : Addr) (f : Nat → Addr) (g : Nat → FuncData) : Prop where
  name : Gt K mg base "is_name" sIsName ["value"] (f 0) (g 0) T1
  steps : Gf K mg "is_steps" sIsSteps ["value"] (f 1) (g 1)
  count : Gf K mg "is_count" sIsCount ["value"] (f 2) (g 2)
  number : Gd K mg "is_number" sIsNumber [.non] (f 3) (g 3)
  weight : Gf K mg "is_weight" sIsWeight ["value"] (f 4) (g 4)
  part : Gf K mg "is_part" sIsPart ["value"] (f 5) (g 5)
  namesIn : Gf K mg "names_in" sNamesIn ["tree"] (f 6) (g 6)
  levels : Gf K mg "levels" sLevels ["tree"] (f 7) (g 7)
  plan : Gf K mg "is_plan" sIsPlan ["tree"] (f 8) (g 8)
  treeOf : Gf K mg "tree_of" sTreeOf ["work"] (f 9) (g 9)
  elder : Gt K mg base "elder_tree" sElderTree ["kind", "name", "parts"] (f 10) (g 10) T2
  partsOf : Gf K mg "parts_of" sPartsOf ["tree"] (f 11) (g 11)
  workOf : Gf K mg "work_of" sWorkOf ["tree"] (f 12) (g 12)
  isWork : Gf K mg "is_work" sIsWork ["value"] (f 13) (g 13)
section
variable {P : Program} {w : World} {K : PySem.W.Frag} {mg : Str → Option Value} {base : Heap} {T1 T2 : Addr} {f : Nat → Addr} {g : Nat → FuncData} {c : Cs}
theorem ok_elder (D : Df K mg base T1 T2 f g) (b : Bi mg) (co : Co mg) (k : Kl K mg c) : FnOk P w K mg base CX0 7 (f 10) (g 10) ["kind", "name", "parts"] (spElder c T1 T2) := by
  have G1 : FnOk P w K mg base CX0 2 (f 0) (g 0) ["value"] (spName T1) := ok_name D.name b co
  have G2 : FnOk P w K mg base CX0 6 (f 8) (g 8) ["tree"] (spPlan 5) := ok_plan D.plan D.namesIn D.levels b co 5
  have G4 : FnOk P w K mg base CX0 3 (f 5) (g 5) ["value"] (spPart c) := ok_part D.part D.isWork D.weight D.number b co k
  have G3 : FnOk P w K mg base CX0 1 (f 9) (g 9) ["work"] (spTreeOf c) := ok_treeOf D.treeOf k
  obtain ⟨cc, hc, TB⟩ := D.elder.tab
  obtain ⟨oc, od, kV, doc, pm, an, cdv, ct, osl, e0, lk, hcd⟩ := D.elder.g.F.ex
  rw [e0] at hc lk ⊢
  obtain rfl : cdv = .ref cc := hc
  refine fn_of lk hcd scElderTree (fun vs H Q E h => ?_) fun A outer s H vs Q E hr h => ?_
  · obtain ⟨bb, nm, l, xs, ps, rfl, _⟩ := h
    rfl
  obtain ⟨bb, nm, l, xs, ps, rfl, hl, hw, ho, h1, h2, q⟩ := h
  obtain ⟨o1, o2, o3, o4, o5⟩ := id ho
  rw [Ps.toL_ofL] at o2 o3
  obtain ⟨t, hm⟩ := co.parts
  suffices q : ∃ t, PSs (cxOf CX0 P w K mg base ["kind", "name", "parts", "tree", "part", "weight", "work"] "elder_tree" (defScope sElderTree) (f 10) (.ref cc) A outer s H E).nox (defBody sElderTree) t ∧ t { nx := fun _ H' => Q .non H', rt := Q } (start ["kind", "name", "parts", "tree", "part", "weight", "work"] [.str (kindS bb), .str nm, .ref l]) H by
    obtain ⟨t, h1, h2⟩ := q
    exact ⟨t, h1.nox, h2⟩
  refine ⟨_, pss_cons (ps_if (pt_not (pt_val (pe_call G1 (hr.mono (by decide)) (by rfl) D.name.g.m D.name.g.F.kp D.name.g.b .nil pass0 (pa_cons (pv 1) pa_nil)))) (pss_one ps_never) pss_nil)
    (pss_cons (ps_if (PW.pt (pw_or (pt_not (pt_val (pe_callB call_isi (by rfl) b.isinstance b_isi (pa_cons (pv 2) (pa_cons (pe_bltn (v := .ty "list") (by rfl) b.list b_list rfl) pa_nil)))))
      (pw_or1 (pt_not (pt_chain op_le op_le pe_int (pe_callB call_len_seq (by rfl) b.len PySem.boot_len (pa_cons (pv 2) pa_nil)) (pe_glob (v := .int 6) (by rfl) hm ⟨_, rfl⟩)))))) (pss_one ps_never) pss_nil)
    (pss_cons (ps_if (pt_not (pt_val (pe_allG (k := 3) (own := [("part", 4)]) (g := (gName 4)) (hr.mono (by decide)) (by rfl) b.all TB rfl scElderTree.nd (blkOk_by (own := [("part", 4)]) (N := ["kind", "name", "parts", "tree", "part", "weight", "work"]) (sc := defScope sElderTree) (by decide +kernel)) ⟨rfl, by decide +kernel, rfl⟩ (pi_list (pv 2)) (fun _ _ _ _ _ _ _ hrg => (pg_name (i := 4) scElderTree.nd rfl (.inl rfl))) (fun _ _ _ _ _ _ _ hrg => (pe_call G4 (hrg.mono (by decide)) (by rfl) D.part.m D.part.F.kp D.part.b .nil pass0 (pa_cons (pv 4) pa_nil)))))) (pss_one ps_never) pss_nil)
    (pss_cons (ps_set (i := 3) scElderTree.nd rfl (.inl rfl) (pe_tup (pa_cons (pv 0) (pa_cons (pv 1) (pa_cons pe_non (pa_cons (pe_callTy call_tuple_of (by rfl) b.tuple b_tuple (pa_cons
      (pe_lc (own := [("weight", 5), ("work", 6)]) (g := gTup K 2 (gCons (gName 5) (gCons (gName 6) gNil))) rfl scElderTree.nd (pi_list (pv 2)) (blkOk_by (own := [("weight", 5), ("work", 6)]) (N := ["kind", "name", "parts", "tree", "part", "weight", "work"]) (sc := defScope sElderTree) (by decide +kernel))
        (fun _ _ _ _ _ => pg_tup rfl (pgs_cons (pg_name (i := 5) scElderTree.nd rfl (.inl rfl)) (pgs_cons (pg_name (i := 6) scElderTree.nd rfl (.inl rfl)) pgs_nil))) (fun _ _ _ _ _ => pts_nil)
        (fun _ _ _ _ _ => pe_tup (pa_cons (pv 5) (pa_cons (pe_call G3 (hr.mono (by decide)) (by rfl) D.treeOf.m D.treeOf.F.kp D.treeOf.b .nil pass0 (pa_cons (pv 6) pa_nil)) pa_nil)))) pa_nil)) pa_nil))))))
    (pss_cons (ps_if (pt_not (pt_val (pe_call G2 hr (by rfl) D.plan.m D.plan.F.kp D.plan.b .nil pass0 (pa_cons (pv 3) pa_nil)))) (pss_one ps_never) pss_nil)
    (pss_one (ps_ret (pv 3))))))), ?_⟩
  -- if not is_name(name)
  refine ⟨_, rfl, nm, rfl, by have := nameOk_len o1; omega, h1, fun H1 sm => ⟨_, rfl, ?_⟩⟩
  rw [o1]
  refine iteF ?_
  -- if not isinstance(parts, list) or not 1 <= len(parts) <= MOST_PARTS
  have hl1 := sm.lst hl
  have hw1 := hw.mono sm
  refine ⟨_, rfl, _, _, _, _, true, rfl, .ty _, .base (.lst hl1), kit_list_list, true, rfl, iteF ?_⟩
  have n1 : (1 : Int) ≤ ((xs.length : Nat) : Int) := by
    have := List.length_pos_iff.mpr o2
    have := hw.1
    omega
  have n6 : ((xs.length : Nat) : Int) ≤ 6 := by
    have := hw.1
    omega
  refine ⟨_, rfl, l, _, rfl, .inl (SqL.of hl1), _, _, rfl, rfl, _, rfl, ?_⟩
  rw [decide_eq_true n1]
  refine iteT ⟨_, _, rfl, rfl, _, rfl, ?_⟩
  rw [decide_eq_true n6]
  refine iteF ?_
  -- if not all(is_part(part) for part in parts)
  refine ⟨_, rfl, l, rfl, ⟨_, SqL.of hl1⟩, sm.tabG h2, g_list (K := K) (xs := xs) (fun _ H2 => Sm H1 H2) (fun H2 h => Sm.tabbed (sm.tabG h2) h) (fun i H2 _ s2 => s2.seqL (SqL.of hl1)) (fun i x H2 hx s2 => ?_) fun H2 sm2 => ?_⟩
  · obtain ⟨w', t', q', v', g1, rfl, g2, g3⟩ := (hw1.mono s2).get hx
    refine ⟨rfl, _, rfl, q', w', v', t', rfl, g2, g3, fun H3 s3 => ⟨_, rfl, ?_⟩⟩
    rw [(Ps.Ok.mem o4 (w := w') (t := t') (by rw [Ps.toL_ofL]; exact List.mem_of_getElem? g1)).1]
    exact s2.trans s3
  refine ⟨_, rfl, iteF ?_⟩
  -- tree = (kind, name, None, tuple([(weight, tree_of(work)) for weight, work in parts]))
  have hl2 := sm2.lst hl1
  have hw2 := hw1.mono sm2
  refine ⟨_, rfl, _, rfl, _, rfl, l, rfl, ⟨_, SqL.of hl2⟩, fun L hL => lc_list (K := K) (a := l) (xs := xs) (fun i H3 => Sm H2 H3 ∧ ∃ acc, H3 L = some (.lst acc) ∧ PtUp H3 ps i acc) ⟨Sm.new hL, [], upd_same, rfl, fun j _ _ z => absurd z (Nat.not_lt_zero j)⟩ (fun i H3 _ z => SqL.of (z.1.lst hl2)) ?_ ?_⟩
  · rintro i x H3 hx ⟨s3, acc, ha, up⟩
    obtain ⟨w', t', q', v', g1, rfl, g2, g3⟩ := (hw2.mono s3).get hx
    refine ⟨q', _, rfl, SqT.of g2, rfl, _, _, rfl, _, _, rfl, rfl, rfl, ?_⟩
    unfold tYes
    refine iteT ?_
    refine ⟨_, rfl, _, rfl, v', t', rfl, g3, fun tv htv => ⟨by show 2 ≤ sizeLine; decide, fun p hp => ?_⟩⟩
    have nLp : L ≠ p := ne_of_none ha hp
    have up2 : PtUp (upd H3 p (.tup [.int w', tv])) ps i acc := up.tp (Sm.new hp).tp
    refine ⟨acc, by rw [upd_ne nLp]; exact ha, small1000 (by have := up.1; have := get_lt g1; omega), (s3.trans (Sm.new hp)).put hL, _, upd_same, ?_⟩
    have tpp : Tp (upd H3 p (.tup [.int w', tv])) (upd (upd H3 p (.tup [.int w', tv])) L (.lst (acc ++ [.ref p]))) := Tp.put (by rw [upd_ne nLp]; exact ha)
    exact (up2.tp tpp).snoc g1 (tpp _ _ upd_same) ((htv.tp (Sm.new hp).tp).tp tpp)
  rintro H3 ⟨s3, acc, ha, up⟩
  rw [hw.1] at up
  refine ⟨L, acc, rfl, .inl ⟨SqL.of ha, fun e he => ⟨by show 4 ≤ sizeLine; decide, fun a ha2 => ?_⟩⟩⟩
  have s4 : Sm H3 (upd (upd H3 e (.tup acc)) a (.tup [.str (kindS bb), .str nm, .non, .ref e])) := (Sm.new he).trans (Sm.new ha2)
  have nea : e ≠ a := fun z => by rw [← z, upd_same] at ha2; cases ha2
  have TA : TrAt (upd (upd H3 e (.tup acc)) a (.tup [.str (kindS bb), .str nm, .non, .ref e])) (.node bb nm (Ps.ofL ps)) (.ref a) :=
    ⟨a, e, acc, rfl, upd_same, by rw [upd_ne nea, upd_same], (up.tp s4.tp).all⟩
  have lev5 : (Tr.node bb nm (Ps.ofL ps)).lev ≤ 5 ∧ (Tr.node bb nm (Ps.ofL ps)).names.length ≤ 20 := by
    unfold planOk at o5
    rw [Bool.and_eq_true, Bool.and_eq_true] at o5
    exact ⟨of_decide_eq_true o5.2, of_decide_eq_true o5.1.1⟩
  -- if not is_plan(tree)
  refine ⟨_, rfl, .ref a, _, rfl, TA, lev5.1, by omega, fun H4 s5 => ⟨_, rfl, ?_⟩⟩
  rw [o5]
  refine iteF ⟨_, rfl, ?_⟩
  exact q H4 (.ref a) ((((sm.trans sm2).trans s3).trans s4).trans s5) (TA.mono s5)
end
end Hf
set_option Elab.async false
set_option maxRecDepth 100000
set_option maxHeartbeats 4000000
namespace Hf
open PySem L2
theorem ix2 {a b c d : V} : atI [a, b, c, d] 2 = some c := rfl
/-- tuples and instances stay -/
structure Ln (H H' : Hp) : Prop where
  tup : ∀ b xs, H b = some (.tup xs) → H' b = some (.tup xs)
  ins : ∀ b C dx fs, H b = some (.ins C dx fs) → H' b = some (.ins C dx fs)
theorem Sm.ln {H H' : Hp} (s : Sm H H') : Ln H H' := ⟨fun _ _ h => s.tup h, fun _ _ _ _ h => s.ins h⟩
theorem Ln.put {H : Hp} {D : Addr} {xs : List V} {o : HO} (h : H D = some (.lst xs)) : Ln H (upd H D o) :=
  ⟨fun b ys e => by rw [upd_ne (ne_of e h (by intro z; cases z))]; exact e, fun b C dx fs e => by rw [upd_ne (ne_of e h (by intro z; cases z))]; exact e⟩
theorem WkAt.ln {c : Cs} {H H' : Hp} {t : Tr} {v : V} (h : WkAt c H t v) (e : Ln H H') : WkAt c H' t v := by
  obtain ⟨a, dx, tv, h1, h2, h3⟩ := h
  exact ⟨a, dx, tv, h1, e.ins _ _ _ _ h2, h3.tp e.tup⟩
/-- the first i pairs are made -/
def PwUp (c : Cs) (H : Hp) (l : List (Int × Tr)) (i : Nat) (acc : List V) : Prop := acc.length = i ∧ ∀ (j : Nat) (w : Int) (t : Tr), j < i → l[j]? = some (w, t) → ∃ (q : Addr) (v : V), acc[j]? = some (V.ref q) ∧ H q = some (.tup [.int w, v]) ∧ WkAt c H t v
theorem PwUp.ln {c : Cs} {H H' : Hp} {l : List (Int × Tr)} {i : Nat} {acc : List V} (h : PwUp c H l i acc) (e : Ln H H') : PwUp c H' l i acc :=
  ⟨h.1, fun j w t a b => let ⟨q, v, x, d, f⟩ := h.2 j w t a b; ⟨q, v, x, e.tup _ _ d, f.ln e⟩⟩
theorem PwUp.snoc {c : Cs} {H : Hp} {l : List (Int × Tr)} {i : Nat} {acc : List V} (h : PwUp c H l i acc) {w : Int} {t : Tr} {q : Addr} {v : V} (e : l[i]? = some (w, t)) (h1 : H q = some (.tup [.int w, v])) (h2 : WkAt c H t v) : PwUp c H l (i + 1) (acc ++ [V.ref q]) := by
  refine ⟨by rw [List.length_append, h.1]; rfl, fun j w' t' a b => ?_⟩
  by_cases hj : j = i
  · subst hj
    rw [e] at b
    cases b
    exact ⟨q, v, by rw [List.getElem?_append_right (by rw [h.1]; exact Nat.le_refl _), h.1, Nat.sub_self]; rfl, h1, h2⟩
  · obtain ⟨q', v', x, d, f⟩ := h.2 j w' t' (by omega) b
    exact ⟨q', v', by rw [List.getElem?_append_left (by rw [h.1]; omega)]; exact x, d, f⟩
theorem PwUp.all {c : Cs} {H : Hp} {l : List (Int × Tr)} {acc : List V} (h : PwUp c H l l.length acc) : PwAt c H l acc := ⟨h.1, fun i w t e => h.2 i w t (get_lt e) e⟩
theorem parts6 : ∀ {t : Tr}, t.Ok → t.ps.toL.length ≤ 6
  | .leaf _ _, _ => Nat.zero_le _
  | .node _ _ _, o => o.2.2.1
def Cs.nd (c : Cs) (b : Bool) : Addr := if b = true then c.R else c.B
theorem Cs.of_nd (c : Cs) : ∀ (b : Bool) (n : Str) (p : Ps), c.of (.node b n p) = c.nd b
  | true, _, _ => rfl
  | false, _, _ => rfl
def spNodeInit (c : Cs) (b : Bool) (T1 T2 : Addr) : Sp := fun vs H Q _ => ∃ (p dx : Addr) (nm : Str) (l : Addr) (xs : List V) (ps : List (Int × Tr)), vs = [.ref p, .str nm, .ref l] ∧ H p = some (.ins (c.nd b) dx []) ∧ H l = some (.lst xs) ∧ PwAt c H ps xs ∧
  (Tr.node b nm (Ps.ofL ps)).Ok ∧ Tab H T1 ∧ Tab H T2 ∧ ∀ (H' : Hp) (tv : V), Sb p H H' → H' p = some (.ins (c.nd b) dx (tf tv)) → TrAt H' (.node b nm (Ps.ofL ps)) tv → Q .non H'
def spMName (c : Cs) : Sp := fun vs H Q _ => ∃ (v : V) (t : Tr), vs = [v] ∧ WkAt c H t v ∧ Q (.str t.nm) H
def spMSteps (c : Cs) : Sp := fun vs H Q _ => ∃ (v : V) (t : Tr), vs = [v] ∧ WkAt c H t v ∧ Q (stV t.st) H
def spMStepsN : Sp := fun vs H Q _ => ∃ v : V, vs = [v] ∧ Q .non H
def spMNames (c : Cs) : Sp := fun vs H Q _ => ∃ (v : V) (t : Tr), vs = [v] ∧ WkAt c H t v ∧ t.lev ≤ 5 ∧ t.names.length ≤ 1000 ∧ ∀ (p : Addr) (H' : Hp), Sm H H' → H p = none → H' p = some (.lst (t.names.map V.str)) → Q (.ref p) H'
def spMParts0 : Sp := fun vs H Q _ => ∃ v : V, vs = [v] ∧ ∀ p, H p = none → Q (.ref p) (upd H p (.lst []))
def spMParts (c : Cs) (T1 T2 : Addr) : Sp := fun vs H Q _ => ∃ (v : V) (t : Tr), vs = [v] ∧ WkAt c H t v ∧ t.Ok ∧ t.lev ≤ 5 ∧ Tab H T1 ∧ Tab H T2 ∧
  ∀ (p : Addr) (xs : List V) (H' : Hp), Sm H H' → H p = none → H' p = some (.lst xs) → PwAt c H' t.ps.toL xs → Q (.ref p) H'
def spWorkOf (c : Cs) (T1 T2 : Addr) (n : Nat) : Sp := fun vs H Q _ => ∃ (v : V) (t : Tr), vs = [v] ∧ TrAt H t v ∧ t.Ok ∧ t.lev ≤ n ∧ Tab H T1 ∧ Tab H T2 ∧ ∀ (v' : V) (H' : Hp), Sm H H' → WkAt c H' t v' → Q v' H'
def spPartsOf (c : Cs) (T1 T2 : Addr) (n : Nat) : Sp := fun vs H Q _ => ∃ (v : V) (t : Tr), vs = [v] ∧ TrAt H t v ∧ t.Ok ∧ t.lev ≤ n ∧ Tab H T1 ∧ Tab H T2 ∧
  ∀ (p : Addr) (xs : List V) (H' : Hp), Sm H H' → H p = none → H' p = some (.lst xs) → PwAt c H' t.ps.toL xs → Q (.ref p) H'
/-- how the classes' objects are made -/
structure Mi (K : PySem.W.Frag) (c : Cs) (i : Nat → Addr) (j : Nat → FuncData) : Prop where
  mkL : Mk K c.L (i 0)
  fL : LeafF K (i 0) (j 0)
  mkR : Mk K c.R (i 1)
  fR : Fun K "__init__" "Row.__init__" sRowInit (i 1) (j 1)
  bR : Binds K (j 1) ["self", "name", "parts"] []
  mkB : Mk K c.B (i 2)
  fB : Fun K "__init__" "Bundle.__init__" sBundleInit (i 2) (j 2)
  bB : Binds K (j 2) ["self", "name", "parts"] []
section
variable {P : Program} {w : World} {K : PySem.W.Frag} {mg : Str → Option Value} {base : Heap} {T1 T2 : Addr} {f : Nat → Addr} {g : Nat → FuncData} {c : Cs} {i : Nat → Addr} {j : Nat → FuncData}
theorem ok_rowInit (M : Mi K c i j) (D : Df K mg base T1 T2 f g) (b : Bi mg) (co : Co mg) (k : Kl K mg c) : FnOk P w K mg base CX0 8 (i 1) (j 1) ["self", "name", "parts"] (spNodeInit c true T1 T2) := by
  have G : FnOk P w K mg base CX0 7 (f 10) (g 10) ["kind", "name", "parts"] (spElder c T1 T2) := ok_elder D b co k
  refine M.fR.ok scRowInit (fun vs H Q E h => ?_) (fun cdv A outer s H vs Q E hr h => ?_)
  · obtain ⟨p, dx, nm, l, xs, ps, rfl, _⟩ := h
    rfl
  obtain ⟨p, dx, nm, l, xs, ps, rfl, hp, hl, hw, ho, h1, h2, q⟩ := h
  obtain ⟨t, hm⟩ := co.row
  refine ⟨_, pss_one (ps_fld (pv 0) (pe_call G hr (by rfl) D.elder.g.m D.elder.g.F.kp D.elder.g.b .nil pass0 (pa_cons (pe_glob (v := .str "row") (by rfl) hm ⟨_, rfl⟩) (pa_cons (pv 1) (pa_cons (pv 2) pa_nil)))) rfl), ?_⟩
  refine ⟨_, rfl, _, rfl, true, nm, l, xs, ps, rfl, hl, hw, ho, h1, h2, fun H1 tv sm htv => ?_⟩
  refine ⟨_, rfl, p, c.R, dx, [], rfl, sm.ins hp, k.iR.cl, k.nR, by show 0 < 1000; decide, ?_⟩
  exact q _ tv (sm.sb fun z w => by rw [hp] at w; cases w) upd_same (htv.tp fun b ys e => by rw [upd_ne (ne_of e (sm.ins hp) (by intro z; cases z))]; exact e)
theorem ok_bundleInit (M : Mi K c i j) (D : Df K mg base T1 T2 f g) (b : Bi mg) (co : Co mg) (k : Kl K mg c) : FnOk P w K mg base CX0 8 (i 2) (j 2) ["self", "name", "parts"] (spNodeInit c false T1 T2) := by
  have G : FnOk P w K mg base CX0 7 (f 10) (g 10) ["kind", "name", "parts"] (spElder c T1 T2) := ok_elder D b co k
  refine M.fB.ok scBundleInit (fun vs H Q E h => ?_) (fun cdv A outer s H vs Q E hr h => ?_)
  · obtain ⟨p, dx, nm, l, xs, ps, rfl, _⟩ := h
    rfl
  obtain ⟨p, dx, nm, l, xs, ps, rfl, hp, hl, hw, ho, h1, h2, q⟩ := h
  obtain ⟨t, hm⟩ := co.bundle
  refine ⟨_, pss_one (ps_fld (pv 0) (pe_call G hr (by rfl) D.elder.g.m D.elder.g.F.kp D.elder.g.b .nil pass0 (pa_cons (pe_glob (v := .str "bundle") (by rfl) hm ⟨_, rfl⟩) (pa_cons (pv 1) (pa_cons (pv 2) pa_nil)))) rfl), ?_⟩
  refine ⟨_, rfl, _, rfl, false, nm, l, xs, ps, rfl, hl, hw, ho, h1, h2, fun H1 tv sm htv => ?_⟩
  refine ⟨_, rfl, p, c.B, dx, [], rfl, sm.ins hp, k.iB.cl, k.nB, by show 0 < 1000; decide, ?_⟩
  exact q _ tv (sm.sb fun z w => by rw [hp] at w; cases w) upd_same (htv.tp fun b ys e => by rw [upd_ne (ne_of e (sm.ins hp) (by intro z; cases z))]; exact e)
theorem ok_LeafName {fa : Addr} {fd : FuncData} (F : Fun K "name" "Leaf.name" sLeafName fa fd) (k : Kl K mg c) : FnOk P w K mg base CX0 1 fa fd ["self"] (spMName c) := by
  refine F.ok scLeafName (fun vs H Q E h => ?_) (fun cdv A outer s H vs Q E hr h => ?_)
  · obtain ⟨v, t, rfl, _⟩ := h
    rfl
  obtain ⟨v, t, rfl, ⟨a, dx, tv, rfl, h1, h2⟩, q⟩ := h
  obtain ⟨ta, e1, xs, rfl, g1, _, _⟩ := h2.shape
  refine ⟨_, pss_one (ps_ret (pe_ix ix_tup (pe_fld (pv 0) rfl) pe_int (fun _ _ => rfl))), ?_⟩
  exact ⟨_, rfl, a, c.of t, dx, _, _, rfl, h1, (k.isC t).cl, k.no t, rfl, ta, _, _, _, rfl, rfl, SqT.of g1, ix1, q⟩
theorem ok_LeafNames {fa : Addr} {fd : FuncData} (F : Fun K "names" "Leaf.names" sLeafNames fa fd) (D : Df K mg base T1 T2 f g) (k : Kl K mg c) : FnOk P w K mg base CX0 6 fa fd ["self"] (spMNames c) := by
  have G : FnOk P w K mg base CX0 5 (f 6) (g 6) ["tree"] (spNamesIn 5) := ok_namesIn D.namesIn 5
  refine F.ok scLeafNames (fun vs H Q E h => ?_) (fun cdv A outer s H vs Q E hr h => ?_)
  · obtain ⟨v, t, rfl, _⟩ := h
    rfl
  obtain ⟨v, t, rfl, ⟨a, dx, tv, rfl, h1, h2⟩, l5, n1, q⟩ := h
  refine ⟨_, pss_one (ps_ret (pe_call G hr (by rfl) D.namesIn.m D.namesIn.F.kp D.namesIn.b .nil pass0 (pa_cons (pe_fld (pv 0) rfl) pa_nil))), ?_⟩
  exact ⟨_, rfl, a, c.of t, dx, _, tv, rfl, h1, (k.isC t).cl, k.no t, rfl, tv, t, rfl, h2, l5, n1, q⟩
theorem ok_RowName {fa : Addr} {fd : FuncData} (F : Fun K "name" "Row.name" sRowName fa fd) (k : Kl K mg c) : FnOk P w K mg base CX0 1 fa fd ["self"] (spMName c) := by
  refine F.ok scRowName (fun vs H Q E h => ?_) (fun cdv A outer s H vs Q E hr h => ?_)
  · obtain ⟨v, t, rfl, _⟩ := h
    rfl
  obtain ⟨v, t, rfl, ⟨a, dx, tv, rfl, h1, h2⟩, q⟩ := h
  obtain ⟨ta, e1, xs, rfl, g1, _, _⟩ := h2.shape
  refine ⟨_, pss_one (ps_ret (pe_ix ix_tup (pe_fld (pv 0) rfl) pe_int (fun _ _ => rfl))), ?_⟩
  exact ⟨_, rfl, a, c.of t, dx, _, _, rfl, h1, (k.isC t).cl, k.no t, rfl, ta, _, _, _, rfl, rfl, SqT.of g1, ix1, q⟩
theorem ok_RowNames {fa : Addr} {fd : FuncData} (F : Fun K "names" "Row.names" sRowNames fa fd) (D : Df K mg base T1 T2 f g) (k : Kl K mg c) : FnOk P w K mg base CX0 6 fa fd ["self"] (spMNames c) := by
  have G : FnOk P w K mg base CX0 5 (f 6) (g 6) ["tree"] (spNamesIn 5) := ok_namesIn D.namesIn 5
  refine F.ok scRowNames (fun vs H Q E h => ?_) (fun cdv A outer s H vs Q E hr h => ?_)
  · obtain ⟨v, t, rfl, _⟩ := h
    rfl
  obtain ⟨v, t, rfl, ⟨a, dx, tv, rfl, h1, h2⟩, l5, n1, q⟩ := h
  refine ⟨_, pss_one (ps_ret (pe_call G hr (by rfl) D.namesIn.m D.namesIn.F.kp D.namesIn.b .nil pass0 (pa_cons (pe_fld (pv 0) rfl) pa_nil))), ?_⟩
  exact ⟨_, rfl, a, c.of t, dx, _, tv, rfl, h1, (k.isC t).cl, k.no t, rfl, tv, t, rfl, h2, l5, n1, q⟩
theorem ok_BundleName {fa : Addr} {fd : FuncData} (F : Fun K "name" "Bundle.name" sBundleName fa fd) (k : Kl K mg c) : FnOk P w K mg base CX0 1 fa fd ["self"] (spMName c) := by
  refine F.ok scBundleName (fun vs H Q E h => ?_) (fun cdv A outer s H vs Q E hr h => ?_)
  · obtain ⟨v, t, rfl, _⟩ := h
    rfl
  obtain ⟨v, t, rfl, ⟨a, dx, tv, rfl, h1, h2⟩, q⟩ := h
  obtain ⟨ta, e1, xs, rfl, g1, _, _⟩ := h2.shape
  refine ⟨_, pss_one (ps_ret (pe_ix ix_tup (pe_fld (pv 0) rfl) pe_int (fun _ _ => rfl))), ?_⟩
  exact ⟨_, rfl, a, c.of t, dx, _, _, rfl, h1, (k.isC t).cl, k.no t, rfl, ta, _, _, _, rfl, rfl, SqT.of g1, ix1, q⟩
theorem ok_BundleNames {fa : Addr} {fd : FuncData} (F : Fun K "names" "Bundle.names" sBundleNames fa fd) (D : Df K mg base T1 T2 f g) (k : Kl K mg c) : FnOk P w K mg base CX0 6 fa fd ["self"] (spMNames c) := by
  have G : FnOk P w K mg base CX0 5 (f 6) (g 6) ["tree"] (spNamesIn 5) := ok_namesIn D.namesIn 5
  refine F.ok scBundleNames (fun vs H Q E h => ?_) (fun cdv A outer s H vs Q E hr h => ?_)
  · obtain ⟨v, t, rfl, _⟩ := h
    rfl
  obtain ⟨v, t, rfl, ⟨a, dx, tv, rfl, h1, h2⟩, l5, n1, q⟩ := h
  refine ⟨_, pss_one (ps_ret (pe_call G hr (by rfl) D.namesIn.m D.namesIn.F.kp D.namesIn.b .nil pass0 (pa_cons (pe_fld (pv 0) rfl) pa_nil))), ?_⟩
  exact ⟨_, rfl, a, c.of t, dx, _, tv, rfl, h1, (k.isC t).cl, k.no t, rfl, tv, t, rfl, h2, l5, n1, q⟩
theorem ok_LeafSteps {fa : Addr} {fd : FuncData} (F : Fun K "steps" "Leaf.steps" sLeafSteps fa fd) (k : Kl K mg c) : FnOk P w K mg base CX0 1 fa fd ["self"] (spMSteps c) := by
  refine F.ok scLeafSteps (fun vs H Q E h => ?_) (fun cdv A outer s H vs Q E hr h => ?_)
  · obtain ⟨v, t, rfl, _⟩ := h
    rfl
  obtain ⟨v, t, rfl, ⟨a, dx, tv, rfl, h1, h2⟩, q⟩ := h
  obtain ⟨ta, e1, xs, rfl, g1, _, _⟩ := h2.shape
  refine ⟨_, pss_one (ps_ret (pe_ix ix_tup (pe_fld (pv 0) rfl) pe_int (fun _ _ => rfl))), ?_⟩
  exact ⟨_, rfl, a, c.of t, dx, _, _, rfl, h1, (k.isC t).cl, k.no t, rfl, ta, _, _, _, rfl, rfl, SqT.of g1, ix2, q⟩
theorem ok_LeafParts {fa : Addr} {fd : FuncData} (F : Fun K "parts" "Leaf.parts" sLeafParts fa fd) : FnOk P w K mg base CX0 1 fa fd ["self"] spMParts0 := by
  refine F.ok scLeafParts (fun vs H Q E h => ?_) (fun cdv A outer s H vs Q E hr h => ?_)
  · obtain ⟨v, rfl, _⟩ := h
    rfl
  obtain ⟨v, rfl, q⟩ := h
  exact ⟨_, pss_one (ps_ret (pe_lst pa_nil)), by show 0 ≤ sizeLine; decide, q⟩
theorem ok_RowSteps {fa : Addr} {fd : FuncData} (F : Fun K "steps" "Row.steps" sRowSteps fa fd) : FnOk P w K mg base CX0 1 fa fd ["self"] spMStepsN := by
  refine F.ok scRowSteps (fun vs H Q E h => ?_) (fun cdv A outer s H vs Q E hr h => ?_)
  · obtain ⟨v, rfl, _⟩ := h
    rfl
  obtain ⟨v, rfl, q⟩ := h
  exact ⟨_, pss_one (ps_ret pe_non), q⟩
theorem ok_BundleSteps {fa : Addr} {fd : FuncData} (F : Fun K "steps" "Bundle.steps" sBundleSteps fa fd) : FnOk P w K mg base CX0 1 fa fd ["self"] spMStepsN := by
  refine F.ok scBundleSteps (fun vs H Q E h => ?_) (fun cdv A outer s H vs Q E hr h => ?_)
  · obtain ⟨v, rfl, _⟩ := h
    rfl
  obtain ⟨v, rfl, q⟩ := h
  exact ⟨_, pss_one (ps_ret pe_non), q⟩
/-- a leaf is made -/
theorem lev_part {t : Tr} {n : Nat} (hl : t.lev ≤ n + 1) {w' : Int} {t' : Tr} (h : (w', t') ∈ t.ps.toL) : t'.lev ≤ n := by
  have := Ps.lev_mem h
  have := t.lev_eq
  omega
theorem Tr.Ok.part : ∀ {t : Tr} {w' : Int} {t' : Tr}, t.Ok → (w', t') ∈ t.ps.toL → t'.Ok
  | .leaf _ _, _, _, _, h => by cases h
  | .node _ _ _, _, _, o, h => (Ps.Ok.mem o.2.2.2.1 h).2
def Wk (P : Program) (w : World) (K : PySem.W.Frag) (mg : Str → Option Value) (base : Heap) (c : Cs) (T1 T2 : Addr) (f : Nat → Addr) (g : Nat → FuncData) (n : Nat) : Prop :=
  FnOk P w K mg base CX0 (2 * n + 9) (f 12) (g 12) ["tree"] (spWorkOf c T1 T2 n)
def Pk (P : Program) (w : World) (K : PySem.W.Frag) (mg : Str → Option Value) (base : Heap) (c : Cs) (T1 T2 : Addr) (f : Nat → Addr) (g : Nat → FuncData) (n : Nat) : Prop :=
  FnOk P w K mg base CX0 (2 * n + 8) (f 11) (g 11) ["tree"] (spPartsOf c T1 T2 n)
theorem ok_partsOf (D : Df K mg base T1 T2 f g) (n : Nat) (G : Wk P w K mg base c T1 T2 f g n) : Pk P w K mg base c T1 T2 f g (n + 1) := by
  have G : FnOk P w K mg base CX0 (2 * n + 9) (f 12) (g 12) ["tree"] (spWorkOf c T1 T2 n) := G
  refine D.partsOf.F.ok scPartsOf (fun vs H Q E h => ?_) (fun cdv A outer s H vs Q E hr h => ?_)
  · obtain ⟨v, t, rfl, _⟩ := h
    rfl
  obtain ⟨v, t, rfl, hv, ho, hl, t1, t2, q⟩ := h
  obtain ⟨a, e, xs, rfl, h1, h2, h3⟩ := hv.shape
  refine ⟨_, pss_one (ps_ret (pe_lc (own := [("weight", 1), ("part", 2)]) (g := gTup K 2 (gCons (gName 1) (gCons (gName 2) gNil))) rfl scPartsOf.nd (pi_tup (pe_ix ix_tup (pv 0) pe_int (fun _ _ => rfl)))
    (blkOk_by (own := [("weight", 1), ("part", 2)]) (N := ["tree", "weight", "part"]) (sc := defScope sPartsOf) (by decide +kernel))
    (fun _ _ _ _ _ => pg_tup rfl (pgs_cons (pg_name (i := 1) scPartsOf.nd rfl (.inl rfl)) (pgs_cons (pg_name (i := 2) scPartsOf.nd rfl (.inl rfl)) pgs_nil))) (fun _ _ _ _ _ => pts_nil)
    (fun _ _ _ _ _ => pe_tup (pa_cons (pv 1) (pa_cons (pe_call G (hr.mono (by omega)) (by rfl) D.workOf.m D.workOf.F.kp D.workOf.b .nil pass0 (pa_cons (pv 2) pa_nil)) pa_nil))))), ?_⟩
  refine ⟨_, rfl, a, _, _, _, rfl, rfl, SqT.of h1, ix3, e, rfl, ⟨_, SqT.of h2⟩, fun L hL => lc_tup (K := K) (a := e) (xs := xs) (fun i H3 => Sm H H3 ∧ ∃ acc, H3 L = some (.lst acc) ∧ PwUp c H3 t.ps.toL i acc) ⟨Sm.new hL, [], upd_same, rfl, fun j _ _ z => absurd z (Nat.not_lt_zero j)⟩ (fun i H3 _ z => SqT.of (z.1.tup h2)) ?_ ?_⟩
  · rintro i x H3 hx ⟨s3, acc, ha, up⟩
    obtain ⟨w', t', q', v', g1, rfl, g2, g3⟩ := h3.get hx
    have mem := List.mem_of_getElem? g1
    refine ⟨q', _, rfl, SqT.of (s3.tup g2), rfl, _, _, rfl, _, _, rfl, rfl, rfl, ?_⟩
    unfold tYes
    refine iteT ?_
    refine ⟨_, rfl, _, rfl, v', t', rfl, g3.mono s3, ho.part mem, lev_part hl mem, s3.tabG t1, s3.tabG t2, fun wv H4 s4 hw4 => ⟨by show 2 ≤ sizeLine; decide, fun p hp => ?_⟩⟩
    have ha4 := s4.lst ha
    have nLp : L ≠ p := ne_of_none ha4 hp
    have s5 : Sm H3 (upd H4 p (.tup [.int w', wv])) := s4.trans (Sm.new hp)
    refine ⟨acc, by rw [upd_ne nLp]; exact ha4, small1000 (by have z1 := up.1; have z2 := get_lt g1; have z3 := parts6 ho; omega), (s3.trans s5).put hL, _, upd_same, ?_⟩
    have ln : Ln (upd H4 p (.tup [.int w', wv])) (upd (upd H4 p (.tup [.int w', wv])) L (.lst (acc ++ [.ref p]))) := Ln.put (by rw [upd_ne nLp]; exact ha4)
    exact ((up.ln s5.ln).ln ln).snoc g1 (ln.tup _ _ upd_same) ((hw4.ln (Sm.new hp).ln).ln ln)
  rintro H3 ⟨s3, acc, ha, up⟩
  rw [h3.length] at up
  exact q L acc H3 s3 hL ha up.all
end
end Hf
set_option Elab.async false
set_option maxRecDepth 100000
set_option maxHeartbeats 4000000
namespace Hf
open PySem L2
theorem row_leaf : ¬ (V.str "row" = V.str "leaf") := by decide +kernel
theorem bundle_leaf : ¬ (V.str "bundle" = V.str "leaf") := by decide +kernel
theorem bundle_row : ¬ (V.str "bundle" = V.str "row") := by decide +kernel
section
variable {P : Program} {w : World} {K : PySem.W.Frag} {mg : Str → Option Value} {base : Heap} {T1 T2 : Addr} {f : Nat → Addr} {g : Nat → FuncData} {c : Cs} {i : Nat → Addr} {j : Nat → FuncData}
theorem Df.nm (D : Df K mg base T1 T2 f g) : Nm K mg base T1 (f 0) (f 1) (f 2) (f 3) (g 0) (g 1) (g 2) (g 3) := ⟨D.name, D.steps, D.count, D.number⟩
/-- a new leaf, row, bundle, from the heap ahead of the call -/
theorem new_leaf {H1 H2 : Hp} {x dx : Addr} {nm : Str} {st : Option Int} {tv : V} (hx : H1 x = none) (hd : H1 dx = none) (sb : Sb x (upd (upd H1 dx (.own x)) x (.ins c.L dx [])) H2) (h : H2 x = some (.ins c.L dx (tf tv))) (ht : TrAt H2 (.leaf nm st) tv) :
    Sm H1 H2 ∧ WkAt c H2 (.leaf nm st) (.ref x) := ⟨made hx hd sb, x, dx, tv, rfl, h, ht⟩
theorem new_node {H1 H2 : Hp} {x dx : Addr} {b : Bool} {nm : Str} {ps : Ps} {tv : V} (hx : H1 x = none) (hd : H1 dx = none) (sb : Sb x (upd (upd H1 dx (.own x)) x (.ins (c.nd b) dx [])) H2) (h : H2 x = some (.ins (c.nd b) dx (tf tv))) (ht : TrAt H2 (.node b nm ps) tv) :
    Sm H1 H2 ∧ WkAt c H2 (.node b nm ps) (.ref x) := ⟨made hx hd sb, x, dx, tv, rfl, by rw [c.of_nd]; exact h, ht⟩
theorem ok_workOf (M : Mi K c i j) (D : Df K mg base T1 T2 f g) (b : Bi mg) (co : Co mg) (k : Kl K mg c) (n : Nat) (G : Pk P w K mg base c T1 T2 f g (n + 1)) : Wk P w K mg base c T1 T2 f g (n + 1) := by
  have G : FnOk P w K mg base CX0 (2 * n + 10) (f 11) (g 11) ["tree"] (spPartsOf c T1 T2 (n + 1)) := G
  have GL : FnOk P w K mg base CX0 4 (i 0) (j 0) ["self", "name", "steps"] (spLeafInit c T1) := ok_leafInit M.fL D.nm b co k
  have GR : FnOk P w K mg base CX0 8 (i 1) (j 1) ["self", "name", "parts"] (spNodeInit c true T1 T2) := ok_rowInit M D b co k
  have GB : FnOk P w K mg base CX0 8 (i 2) (j 2) ["self", "name", "parts"] (spNodeInit c false T1 T2) := ok_bundleInit M D b co k
  refine D.workOf.F.ok scWorkOf (fun vs H Q E h => ?_) (fun cdv A outer s H vs Q E hr h => ?_)
  · obtain ⟨v, t, rfl, _⟩ := h
    rfl
  obtain ⟨v, t, rfl, hv, ho, hl, t1, t2, q⟩ := h
  obtain ⟨a, e, xs, rfl, h1, h2, h3⟩ := hv.shape
  obtain ⟨u1, m1⟩ := co.leaf
  obtain ⟨u2, m2⟩ := co.row
  refine ⟨_, pss_cons (ps_asg (pv 0) (pg_tup rfl (pgs_cons (pg_name (i := 1) scWorkOf.nd rfl (.inl rfl)) (pgs_cons (pg_name (i := 2) scWorkOf.nd rfl (.inl rfl)) (pgs_cons (pg_name (i := 3) scWorkOf.nd rfl (.inl rfl)) (pgs_cons (pg_name (i := 4) scWorkOf.nd rfl (.inl rfl)) pgs_nil))))))
    (pss_cons (ps_if (pt_cmpR op_eq (pv 1) (pe_glob (v := .str "leaf") (by rfl) m1 ⟨_, rfl⟩) (nomark _)) (pss_one (ps_ret (pe_make M.mkL GL (hr.mono (by omega)) (by rfl) k.mL (leaf_b3 M.fL) .nil pass0 (pa_cons (pv 2) (pa_cons (pv 3) pa_nil))))) pss_nil)
    (pss_cons (ps_if (pt_cmpR op_eq (pv 1) (pe_glob (v := .str "row") (by rfl) m2 ⟨_, rfl⟩) (nomark _)) (pss_one (ps_ret (pe_make M.mkR GR (hr.mono (by omega)) (by rfl) k.mR M.bR .nil pass0 (pa_cons (pv 2) (pa_cons (pe_call G (hr.mono (by omega)) (by rfl) D.partsOf.m D.partsOf.F.kp D.partsOf.b .nil pass0 (pa_cons (pv 0) pa_nil)) pa_nil))))) pss_nil)
    (pss_one (ps_ret (pe_make M.mkB GB (hr.mono (by omega)) (by rfl) k.mB M.bB .nil pass0 (pa_cons (pv 2) (pa_cons (pe_call G (hr.mono (by omega)) (by rfl) D.partsOf.m D.partsOf.F.kp D.partsOf.b .nil pass0 (pa_cons (pv 0) pa_nil)) pa_nil))))))), ?_⟩
  refine ⟨_, rfl, a, _, rfl, SqT.of h1, rfl, _, _, rfl, _, _, rfl, _, _, rfl, _, _, rfl, rfl, ?_⟩
  refine ⟨_, rfl, by cases t <;> rfl, _, rfl, ?_⟩
  cases t with
  | leaf nm st =>
    rw [decide_eq_true (p := V.str (Tr.leaf nm st).kind = V.str "leaf") rfl]
    refine iteT ⟨_, rfl, _, rfl, fun x dx hx hd _ => ?_⟩
    refine ⟨x, dx, nm, st, rfl, upd_same, ho.1, ho.2, (made0 hx hd).tabG t1, fun H2 tv sb hx2 ht => ⟨rfl, ?_⟩⟩
    obtain ⟨s2, w2⟩ := new_leaf (c := c) hx hd sb hx2 ht
    exact q _ H2 s2 w2
  | node bb nm ps =>
    cases bb with
    | true =>
      rw [decide_eq_false (p := V.str (Tr.node true nm ps).kind = V.str "leaf") row_leaf]
      refine iteF ⟨_, rfl, rfl, _, rfl, ?_⟩
      rw [decide_eq_true (p := V.str (Tr.node true nm ps).kind = V.str "row") rfl]
      refine iteT ⟨_, rfl, _, rfl, .ref a, .node true nm ps, rfl, hv, ho, hl, t1, t2, fun p ys H1 s1 np hp hw => fun x dx hx hd _ => ?_⟩
      have s0 := made0 (o := .ins (c.nd true) dx []) hx hd
      have o2 : (Tr.node true nm (Ps.ofL ps.toL)).Ok := by rw [Ps.ofL_toL]; exact ho
      refine ⟨x, dx, nm, p, ys, ps.toL, rfl, upd_same, s0.lst hp, hw.mono s0, o2, s0.tabG (s1.tabG t1), s0.tabG (s1.tabG t2), fun H2 tv sb hx2 ht => ⟨rfl, ?_⟩⟩
      rw [Ps.ofL_toL] at ht
      obtain ⟨s2, w2⟩ := new_node (c := c) (b := true) hx hd sb hx2 ht
      exact q _ H2 (s1.trans s2) w2
    | false =>
      rw [decide_eq_false (p := V.str (Tr.node false nm ps).kind = V.str "leaf") bundle_leaf]
      refine iteF ⟨_, rfl, rfl, _, rfl, ?_⟩
      rw [decide_eq_false (p := V.str (Tr.node false nm ps).kind = V.str "row") bundle_row]
      refine iteF ⟨_, rfl, _, rfl, .ref a, .node false nm ps, rfl, hv, ho, hl, t1, t2, fun p ys H1 s1 np hp hw => fun x dx hx hd _ => ?_⟩
      have s0 := made0 (o := .ins (c.nd false) dx []) hx hd
      have o2 : (Tr.node false nm (Ps.ofL ps.toL)).Ok := by rw [Ps.ofL_toL]; exact ho
      refine ⟨x, dx, nm, p, ys, ps.toL, rfl, upd_same, s0.lst hp, hw.mono s0, o2, s0.tabG (s1.tabG t1), s0.tabG (s1.tabG t2), fun H2 tv sb hx2 ht => ⟨rfl, ?_⟩⟩
      rw [Ps.ofL_toL] at ht
      obtain ⟨s2, w2⟩ := new_node (c := c) (b := false) hx hd sb hx2 ht
      exact q _ H2 (s1.trans s2) w2
theorem both_of (M : Mi K c i j) (D : Df K mg base T1 T2 f g) (b : Bi mg) (co : Co mg) (k : Kl K mg c) : ∀ n : Nat, Wk P w K mg base c T1 T2 f g n ∧ Pk P w K mg base c T1 T2 f g n
  | 0 => ⟨(none_lev fun vs H Q E ⟨v, t, _, _, _, h, _⟩ => by have := t.lev_pos; omega).mono (Nat.zero_le _), (none_lev fun vs H Q E ⟨v, t, _, _, _, h, _⟩ => by have := t.lev_pos; omega).mono (Nat.zero_le _)⟩
  | n + 1 => by
    have p := ok_partsOf D n (both_of M D b co k n).1
    exact ⟨ok_workOf M D b co k n p, p⟩
theorem ok_RowParts {fa : Addr} {fd : FuncData} (F : Fun K "parts" "Row.parts" sRowParts fa fd) (M : Mi K c i j) (D : Df K mg base T1 T2 f g) (b : Bi mg) (co : Co mg) (k : Kl K mg c) : FnOk P w K mg base CX0 19 fa fd ["self"] (spMParts c T1 T2) := by
  have G : FnOk P w K mg base CX0 18 (f 11) (g 11) ["tree"] (spPartsOf c T1 T2 5) := (both_of M D b co k 5).2
  refine F.ok scRowParts (fun vs H Q E h => ?_) (fun cdv A outer s H vs Q E hr h => ?_)
  · obtain ⟨v, t, rfl, _⟩ := h
    rfl
  obtain ⟨v, t, rfl, ⟨a, dx, tv, rfl, h1, h2⟩, ho, l5, t1, t2, q⟩ := h
  refine ⟨_, pss_one (ps_ret (pe_call G hr (by rfl) D.partsOf.m D.partsOf.F.kp D.partsOf.b .nil pass0 (pa_cons (pe_fld (pv 0) rfl) pa_nil))), ?_⟩
  exact ⟨_, rfl, a, c.of t, dx, _, tv, rfl, h1, (k.isC t).cl, k.no t, rfl, tv, t, rfl, h2, ho, l5, t1, t2, q⟩
theorem ok_BundleParts {fa : Addr} {fd : FuncData} (F : Fun K "parts" "Bundle.parts" sBundleParts fa fd) (M : Mi K c i j) (D : Df K mg base T1 T2 f g) (b : Bi mg) (co : Co mg) (k : Kl K mg c) : FnOk P w K mg base CX0 19 fa fd ["self"] (spMParts c T1 T2) := by
  have G : FnOk P w K mg base CX0 18 (f 11) (g 11) ["tree"] (spPartsOf c T1 T2 5) := (both_of M D b co k 5).2
  refine F.ok scBundleParts (fun vs H Q E h => ?_) (fun cdv A outer s H vs Q E hr h => ?_)
  · obtain ⟨v, t, rfl, _⟩ := h
    rfl
  obtain ⟨v, t, rfl, ⟨a, dx, tv, rfl, h1, h2⟩, ho, l5, t1, t2, q⟩ := h
  refine ⟨_, pss_one (ps_ret (pe_call G hr (by rfl) D.partsOf.m D.partsOf.F.kp D.partsOf.b .nil pass0 (pa_cons (pe_fld (pv 0) rfl) pa_nil))), ?_⟩
  exact ⟨_, rfl, a, c.of t, dx, _, tv, rfl, h1, (k.isC t).cl, k.no t, rfl, tv, t, rfl, h2, ho, l5, t1, t2, q⟩
end
end Hf
set_option Elab.async false
set_option maxRecDepth 100000
set_option maxHeartbeats 4000000
namespace Hf
open PySem L2
/-! ## the law's own plans: tuples and lists -/
structure Lk (H H' : Hp) : Prop where
  tup : ∀ b xs, H b = some (.tup xs) → H' b = some (.tup xs)
  lst : ∀ b xs, H b = some (.lst xs) → H' b = some (.lst xs)
theorem Sm.lk {H H' : Hp} (s : Sm H H') : Lk H H' := ⟨fun _ _ h => s.tup h, fun _ _ h => s.lst h⟩
mutual
def PlAt (H : Hp) : Tr → V → Prop
  | .leaf n st, v => ∃ a, v = .ref a ∧ H a = some (.tup [.str "leaf", .str n, stV st])
  | .node b n ps, v => ∃ a l xs, v = .ref a ∧ H a = some (.tup [.str (kindS b), .str n, .ref l]) ∧ H l = some (.lst xs) ∧ PlPs H ps xs
def PlPs (H : Hp) : Ps → List V → Prop
  | .nil, xs => xs = []
  | .cons w t r, xs => ∃ p v ys, xs = .ref p :: ys ∧ H p = some (.tup [.int w, v]) ∧ PlAt H t v ∧ PlPs H r ys
end
mutual
theorem PlAt.lk {H H' : Hp} (e : Lk H H') : ∀ {t : Tr} {v : V}, PlAt H t v → PlAt H' t v
  | .leaf n st, v, h => by
    obtain ⟨a, h1, h2⟩ := h
    exact ⟨a, h1, e.tup _ _ h2⟩
  | .node b n ps, v, h => by
    obtain ⟨a, c, xs, h1, h2, h3, h4⟩ := h
    exact ⟨a, c, xs, h1, e.tup _ _ h2, e.lst _ _ h3, PlPs.lk e h4⟩
theorem PlPs.lk {H H' : Hp} (e : Lk H H') : ∀ {p : Ps} {xs : List V}, PlPs H p xs → PlPs H' p xs
  | .nil, xs, h => h
  | .cons w t r, xs, h => by
    obtain ⟨p, v, ys, h1, h2, h3, h4⟩ := h
    exact ⟨p, v, ys, h1, e.tup _ _ h2, PlAt.lk e h3, PlPs.lk e h4⟩
end
theorem PlPs.length {H : Hp} : ∀ {p : Ps} {xs : List V}, PlPs H p xs → xs.length = p.toL.length
  | .nil, xs, h => by cases h; rfl
  | .cons w t r, xs, h => by
    obtain ⟨p, v, ys, rfl, h2, h3, h4⟩ := h
    show ys.length + 1 = r.toL.length + 1
    rw [PlPs.length h4]
theorem PlPs.get {H : Hp} : ∀ {p : Ps} {xs : List V} {i : Nat} {x : V}, PlPs H p xs → xs[i]? = some x → ∃ (w : Int) (t : Tr) (q : Addr) (v : V), p.toL[i]? = some (w, t) ∧ x = V.ref q ∧ H q = some (.tup [.int w, v]) ∧ PlAt H t v
  | .nil, xs, i, x, h, e => by cases h; simp at e
  | .cons w t r, xs, i, x, h, e => by
    obtain ⟨p, v, ys, rfl, h2, h3, h4⟩ := h
    cases i with
    | zero =>
      simp at e
      exact ⟨w, t, p, v, rfl, e.symm, h2, h3⟩
    | succ i =>
      have e' : ys[i]? = some x := by simpa using e
      obtain ⟨w', t', q, v', g1, g2, g3, g4⟩ := PlPs.get h4 e'
      exact ⟨w', t', q, v', by show ((w, t) :: r.toL)[i + 1]? = _; rw [List.getElem?_cons_succ]; exact g1, g2, g3, g4⟩
theorem PlPs.of {H : Hp} : ∀ {l : List (Int × Tr)} {xs : List V}, xs.length = l.length → (∀ (i : Nat) (w : Int) (t : Tr), l[i]? = some (w, t) → ∃ (q : Addr) (v : V), xs[i]? = some (V.ref q) ∧ H q = some (.tup [.int w, v]) ∧ PlAt H t v) → PlPs H (Ps.ofL l) xs
  | [], [], _, _ => rfl
  | [], _ :: _, e, _ => by simp at e
  | _ :: _, [], e, _ => by simp at e
  | (w, t) :: l, x :: xs, e, h => by
    obtain ⟨q, v, h1, h2, h3⟩ := h 0 w t rfl
    simp at h1
    subst h1
    refine ⟨q, v, xs, rfl, h2, h3, PlPs.of (by simpa using e) fun i w' t' z => ?_⟩
    obtain ⟨q', v', g1, g2, g3⟩ := h (i + 1) w' t' (by simpa using z)
    exact ⟨q', v', by simpa using g1, g2, g3⟩
def Tr.isLeaf : Tr → Bool
  | .leaf _ _ => true
  | .node _ _ _ => false
/-- what stands third: the steps, or the list of the parts -/
theorem PlAt.shape {H : Hp} : ∀ {t : Tr} {v : V}, PlAt H t v → ∃ a z, v = .ref a ∧ H a = some (.tup [.str t.kind, .str t.nm, z])
  | .leaf n st, v, h => by
    obtain ⟨a, h1, h2⟩ := h
    exact ⟨a, _, h1, h2⟩
  | .node b n ps, v, h => by
    obtain ⟨a, l, xs, h1, h2, _, _⟩ := h
    exact ⟨a, _, h1, h2⟩
/-! ### as data -/
def stD : Option Int → PyData
  | none => .none
  | some i => .int i
mutual
def Tr.dat : Tr → PyData
  | .leaf n st => .tuple [.str "leaf", .str n, stD st]
  | .node b n ps => .tuple [.str (kindS b), .str n, .list ps.dat]
def Ps.dat : Ps → List PyData
  | .nil => []
  | .cons w t r => .tuple [.int w, t.dat] :: r.dat
end
theorem stDp {K : PySem.W.Frag} {H : Hp} : ∀ st : Option Int, Dp K H (stV st) (stD st)
  | none => .non
  | some i => .int i
mutual
theorem PlAt.dp {K : PySem.W.Frag} {H : Hp} : ∀ {t : Tr} {v : V}, PlAt H t v → Dp K H v t.dat
  | .leaf n st, v, h => by
    obtain ⟨a, rfl, h2⟩ := h
    exact .tup (SqT.of h2) (.cons (.str _) (.cons (.str _) (.cons (stDp st) .nil)))
  | .node b n ps, v, h => by
    obtain ⟨a, l, xs, rfl, h2, h3, h4⟩ := h
    exact .tup (SqT.of h2) (.cons (.str _) (.cons (.str _) (.cons (.lst (SqL.of h3) (PlPs.dp h4)) .nil)))
theorem PlPs.dp {K : PySem.W.Frag} {H : Hp} : ∀ {p : Ps} {xs : List V}, PlPs H p xs → DpAll K H xs p.dat
  | .nil, xs, h => by
    cases h
    exact .nil
  | .cons w t r, xs, h => by
    obtain ⟨p, v, ys, rfl, h2, h3, h4⟩ := h
    exact .cons (.tup (SqT.of h2) (.cons (.int _) (.cons (PlAt.dp h3) .nil))) (PlPs.dp h4)
end
mutual
def Tr.NmOk : Tr → Prop
  | .leaf n _ => PyData.strOk n = true
  | .node _ n ps => PyData.strOk n = true ∧ ps.NmOk
def Ps.NmOk : Ps → Prop
  | .nil => True
  | .cons _ t r => t.NmOk ∧ r.NmOk
end
theorem ok_leafS : PyData.strOk ("leaf" : Str) = true := by decide +kernel
theorem ok_kindS : ∀ b : Bool, PyData.strOk (kindS b) = true
  | true => by show PyData.strOk ("row" : Str) = true; decide +kernel
  | false => by show PyData.strOk ("bundle" : Str) = true; decide +kernel
theorem ok_stD : ∀ st : Option Int, (stD st).canLay0 = true
  | none => rfl
  | some _ => rfl
mutual
theorem Tr.lay : ∀ {t : Tr}, t.NmOk → t.dat.canLay0 = true
  | .leaf n st, h => by
    show (PyData.strOk _ && (PyData.strOk _ && ((stD st).canLay0 && true))) = true
    rw [ok_leafS, show PyData.strOk n = true from h, ok_stD]
    rfl
  | .node b n ps, h => by
    show (PyData.strOk _ && (PyData.strOk _ && (PyData.canLayAll0 ps.dat && true))) = true
    rw [ok_kindS, h.1, Ps.lay h.2]
    rfl
theorem Ps.lay : ∀ {p : Ps}, p.NmOk → PyData.canLayAll0 p.dat = true
  | .nil, _ => rfl
  | .cons w t r, h => by
    show ((true && (t.dat.canLay0 && true)) && PyData.canLayAll0 r.dat) = true
    rw [Tr.lay h.1, Ps.lay h.2]
    rfl
end
theorem dep_stD : ∀ st : Option Int, (stD st).depth = 0
  | none => rfl
  | some _ => rfl
mutual
theorem Tr.dep : ∀ t : Tr, t.dat.depth ≤ 3 * t.lev
  | .leaf n st => by
    show max 0 (max 0 (max (stD st).depth 0)) + 1 ≤ 3 * 1
    rw [dep_stD]
    omega
  | .node b n ps => by
    show max 0 (max 0 (max (PyData.depthAll ps.dat + 1) 0)) + 1 ≤ 3 * (ps.lev + 1)
    have := Ps.dep ps
    omega
theorem Ps.dep : ∀ p : Ps, PyData.depthAll p.dat ≤ 3 * p.lev + 1
  | .nil => Nat.zero_le _
  | .cons w t r => by
    show max (max 0 (max t.dat.depth 0) + 1) (PyData.depthAll r.dat) ≤ 3 * (max t.lev r.lev) + 1
    have h1 := Tr.dep t
    have h2 := Ps.dep r
    omega
end
end Hf
set_option Elab.async false
set_option maxRecDepth 100000
set_option maxHeartbeats 4000000
namespace Hf
open PySem L2
def spCell (K : PySem.W.Frag) : Sp := fun vs H Q _ => ∃ (a : Addr) (k : Int) (ns : List Int), vs = [.ref a, .int k] ∧ SqL K H a (ns.map V.int) ∧ ns.length ≤ 63 ∧ 0 ≤ k ∧ ∀ (i : Int) (H' : Hp), Sm H H' → Q (.int i) H'
def spNumbers (K : PySem.W.Frag) : Sp := fun vs H Q _ => ∃ (c : Int) (b : Addr) (bs : List Int), vs = [.int c, .ref b] ∧ SqL K H b (bs.map V.int) ∧ bs.length ≤ 900 ∧ (∀ x ∈ bs, 0 < x ∧ x < 1073741824) ∧
  ∀ (p : Addr) (ds : List Int) (H' : Hp), Sm H H' → H p = none → H' p = some (.lst (ds.map V.int)) → ds.length = bs.length → (∀ (i : Nat) (d b : Int), ds[i]? = some d → bs[i]? = some b → 0 ≤ d ∧ d < b) → Q (.ref p) H'
def nameL : List Str := ["a", "row", "leaf", "did", "found", "b", "bundle", "again", "knows", "c", "d", "e", "f", "g", "h", "zzzzzzzz", "j", "k", "l", "m"]
def spNames : Sp := fun vs H Q _ => vs = [] ∧ ∀ (p : Addr) (H' : Hp), Sm H H' → H p = none → H' p = some (.lst (nameL.map V.str)) → Q (.ref p) H'
section
variable {P : Program} {w : World} {K : PySem.W.Frag} {mg : Str → Option Value} {base : Heap}
theorem ok_cell {f : Addr} {fd : FuncData} (D : Gf K mg "_law_cell_at" sLawCellAt ["_law_script", "_law_k"] f fd) (b : Bi mg) : FnOk P w K mg base CX0 6 f fd ["_law_script", "_law_k"] (spCell K) := by
  refine D.F.ok scLawCellAt (fun vs H Q E h => ?_) (fun cdv A outer s H vs Q E hr h => ?_)
  · obtain ⟨a, k, ns, rfl, _⟩ := h
    rfl
  obtain ⟨a, k, ns, rfl, hS, h63, h0, q⟩ := h
  have ln : (ns.map V.int).length = ns.length := List.length_map _
  refine ⟨_, pss_cons (ps_if (pt_cmpR op_lt (pv 1) (pe_callB call_len_seq (by rfl) b.len PySem.boot_len (pa_cons (pv 0) pa_nil)) (nomark _)) (pss_one (ps_ret (pe_ix ix_list (pv 0) (pv 1) (fun _ _ => rfl)))) pss_nil)
    (pss_cons (ps_if (pt_cmpR (op_eqD (hu64 hr)) (pv 0) (pe_lst pa_nil) (nomark _)) (pss_one (ps_ret (pe_op op_mul (pv 1) pe_int))) pss_nil)
    (pss_one (ps_ret (pe_op op_mod (pe_op op_mul (pe_op op_add (pe_ix ix_list (pv 0) (pe_op op_mod (pv 1) (pe_callB call_len_seq (by rfl) b.len PySem.boot_len (pa_cons (pv 0) pa_nil))) (fun _ _ => rfl)) (pv 1)) pe_int) pe_int)))), ?_⟩
  refine ⟨_, rfl, _, rfl, a, _, rfl, .inl hS, _, _, rfl, rfl, _, rfl, ?_⟩
  rw [ln]
  by_cases c1 : k < ((ns.length : Nat) : Int)
  · rw [decide_eq_true c1]
    refine iteT ?_
    obtain ⟨j, rfl⟩ : ∃ j : Nat, k = (j : Int) := ⟨k.toNat, by omega⟩
    have hj : j < ns.length := by omega
    exact ⟨_, rfl, _, rfl, a, _, _, _, rfl, rfl, hS, atI_nat (by rw [List.getElem?_map, List.getElem?_eq_getElem hj]; rfl), q _ H (Sm.refl H)⟩
  · rw [decide_eq_false c1]
    refine iteF ⟨_, rfl, by show 0 ≤ sizeLine; decide, fun p hp => ?_⟩
    have s1 : Sm H (upd H p (.lst [])) := Sm.new hp
    refine ⟨_, _, .lst (s1.seqL hS) (intsDp ns), .lst (SqL.of upd_same) .nil, ints_shaped ns, nil_shaped, _, rfl, ?_⟩
    cases ns with
    | nil =>
      rw [show PyData.eqv (.list (([] : List Int).map PyData.int)) (.list []) = true from rfl]
      exact iteT ⟨_, rfl, _, _, rfl, rfl, .inr ⟨by decide, by decide⟩, q _ _ s1⟩
    | cons n r =>
      rw [show PyData.eqv (.list ((n :: r).map PyData.int)) (.list []) = false from rfl]
      have pos : (0 : Int) < (((n :: r).length : Nat) : Int) := by simp only [List.length_cons]; omega
      have m0 := Int.emod_nonneg k (show (((n :: r).length : Nat) : Int) ≠ 0 by omega)
      have m1 := Int.emod_lt_of_pos k pos
      obtain ⟨j, hj⟩ : ∃ j : Nat, k % (((n :: r).length : Nat) : Int) = (j : Int) := ⟨(k % (((n :: r).length : Nat) : Int)).toNat, by omega⟩
      have jl : j < (n :: r).length := by omega
      refine iteF ⟨_, rfl, _, rfl, _, rfl, a, _, rfl, .inl (s1.seqL hS), _, _, rfl, rfl, ?_⟩
      rw [ln]
      refine ⟨pos, a, _, _, _, rfl, rfl, s1.seqL hS, at_of (j := j) (v := V.int (n :: r)[j]) hj (by rw [List.getElem?_map, List.getElem?_eq_getElem jl]; rfl), _, rfl, _, _, rfl, rfl, _, _, rfl, rfl, .inr ⟨by decide, by decide⟩, _, _, rfl, rfl, by show (0 : Int) < 2147483647; decide, q _ _ s1⟩
theorem ok_numbers {f : Addr} {fd : FuncData} (D : Gf K mg "_law_numbers" sLawNumbers ["_law_cell", "_law_bounds"] f fd) : FnOk P w K mg base CX0 1 f fd ["_law_cell", "_law_bounds"] (spNumbers K) := by
  refine D.F.ok scLawNumbers (fun vs H Q E h => ?_) (fun cdv A outer s H vs Q E hr h => ?_)
  · obtain ⟨c, b, bs, rfl, _⟩ := h
    rfl
  obtain ⟨c, b, bs, rfl, hB, few, hb, q⟩ := h
  refine ⟨_, pss_cons (ps_set (i := 2) scLawNumbers.nd rfl (.inl rfl) (pv 0))
    (C8.pss_cut (ps_if (pt_cmpR op_lt (pv 0) (pe_op op_pow pe_int pe_int) (nomark _)) (pss_one (ps_set (i := 2) scLawNumbers.nd rfl (.inl rfl) (pe_op op_fdiv (pe_op op_pow (pe_op op_add (pe_op op_mul (pe_op op_mod (pv 0) pe_int) pe_int) pe_int) pe_int) pe_int))) pss_nil)
    (pss_cons (ps_set (i := 3) scLawNumbers.nd rfl (.inl rfl) (pe_lst pa_nil))
    (pss_cons (ps_for PassesOwn.never rfl (pi_list (pv 1)) (pg_name (i := 4) scLawNumbers.nd rfl (.inl rfl))
      (pss_cons (ps_expr (pe_bm PySem.F.plainAttrs_list PySem.F.slot_list_append PySem.F.type_list_append mt_append (pv 3) (pa_cons (pe_op op_mod (pv 2) (pv 4)) pa_nil)))
      (pss_one (ps_set (i := 2) scLawNumbers.nd rfl (.inl rfl) (pe_op op_fdiv (pv 2) (pv 4))))))
    (pss_one (ps_ret (pv 3)))))), ?_⟩
  refine ⟨_, rfl, fun σ H1 => ∃ r : Int, σ = [some (.int c), some (.ref b), some (.int r), none, none] ∧ H1 = H, ?_, ?_⟩
  · refine ⟨_, rfl, _, _, rfl, rfl, ⟨by decide, by decide, by decide⟩, _, _, rfl, rfl, _, rfl, ?_⟩
    by_cases c1 : c < (10 : Int) ^ (18 : Int).toNat
    · rw [decide_eq_true c1]
      have m0 := Int.emod_nonneg c (show (2147483647 : Int) ≠ 0 by decide)
      have m1 := Int.emod_lt_of_pos c (show (0 : Int) < 2147483647 by decide)
      refine iteT ⟨_, rfl, _, _, rfl, rfl, by show (0 : Int) < 2147483647; decide, _, _, rfl, rfl, .inr ⟨by decide, by decide⟩, _, _, rfl, rfl, _, _, rfl, rfl, ⟨by decide, by decide, ?_⟩, _, _, rfl, rfl, ⟨by decide, by decide⟩, ⟨_, rfl, rfl⟩⟩
      show (c % 2147483647 * 48271 + 12345).natAbs < 2 ^ 64
      omega
    · rw [decide_eq_false c1]
      exact iteF ⟨_, rfl, rfl⟩
  rintro σ H1 ⟨r, rfl, rfl⟩
  refine ⟨by show 0 ≤ sizeLine; decide, fun p hp => ?_⟩
  have s1 : Sm H1 (upd H1 p (.lst [])) := Sm.new hp
  refine ⟨_, rfl, b, rfl, ⟨_, s1.seqL hB⟩, for_list (K := K) (a := b) (xs := bs.map V.int)
    (fun i σ H2 => ∃ (z : Int) (v4 : Option V) (ds : List Int), σ = [some (.int c), some (.ref b), some (.int z), some (.ref p), v4] ∧ Sm H1 H2 ∧ H2 p = some (.lst (ds.map V.int)) ∧ ds.length = i ∧ ∀ (m : Nat) (d y : Int), ds[m]? = some d → bs[m]? = some y → 0 ≤ d ∧ d < y)
    ⟨r, none, [], rfl, s1, upd_same, rfl, fun m d y e _ => by simp at e⟩ (fun i σ H2 _ hh => ?_) ?_ ?_⟩
  · obtain ⟨_, _, _, _, s2, _⟩ := hh
    exact s2.seqL hB
  · rintro i x σ H2 hx ⟨z, v4, ds, rfl, s2, hp2, hl, hd⟩
    rw [List.getElem?_map] at hx
    obtain ⟨y, hy, rfl⟩ : ∃ y, bs[i]? = some y ∧ V.int y = x := by
      cases e : bs[i]? with
      | none => rw [e] at hx; cases hx
      | some y => rw [e] at hx; exact ⟨y, rfl, Option.some.inj hx⟩
    obtain ⟨y0, y1⟩ := hb y (List.mem_of_getElem? hy)
    have il := get_lt hy
    refine ⟨_, rfl, .inl ⟨rfl, _, SqL.of hp2⟩, _, rfl, _, rfl, _, _, rfl, rfl, y0, p, _, _, rfl, rfl, hp2, small1000 (by rw [List.length_map]; omega), ?_⟩
    refine ⟨_, rfl, _, rfl, _, _, rfl, rfl, ⟨y0, y1⟩, ?_⟩
    refine ⟨z / y, some (.int y), ds ++ [z % y], rfl, s2.put hp, ?_, by rw [List.length_append, hl]; rfl, fun m d u e1 e2 => ?_⟩
    · rw [upd_same, List.map_append]
      rfl
    · by_cases hm : m = i
      · subst hm
        rw [List.getElem?_append_right (by omega), hl, Nat.sub_self] at e1
        cases e1
        rw [hy] at e2
        cases e2
        exact ⟨Int.emod_nonneg _ (by omega), Int.emod_lt_of_pos _ y0⟩
      · have hm2 : m < ds.length := by
          have q1 := get_lt e1
          rw [List.length_append] at q1
          have q2 : ([z % y] : List Int).length = 1 := rfl
          omega
        rw [List.getElem?_append_left hm2] at e1
        exact hd m d u e1 e2
  · rintro σ H2 ⟨z, v4, ds, rfl, s2, hp2, hl, hd⟩
    refine ⟨_, rfl, q p ds H2 s2 hp hp2 ?_ hd⟩
    rw [hl, List.length_map]
theorem ok_names {f : Addr} {fd : FuncData} (D : Gf K mg "_law_names" sLawNames [] f fd) : FnOk P w K mg base CX0 1 f fd [] spNames := by
  refine D.F.ok scLawNames (fun vs H Q E h => ?_) (fun cdv A outer s H vs Q E hr h => ?_)
  · obtain ⟨rfl, _⟩ := h
    rfl
  obtain ⟨rfl, q⟩ := h
  refine ⟨_, pss_cons (ps_set (i := 0) scLawNames.nd rfl (.inl rfl) (pe_lst (pa_cons pe_str (pa_cons pe_str (pa_cons pe_str (pa_cons pe_str (pa_cons pe_str (pa_cons pe_str (pa_cons pe_str (pa_cons pe_str (pa_cons pe_str (pa_cons pe_str pa_nil)))))))))))) (pss_one (ps_ret (pe_op op_cat (pv 0) (pe_lst (pa_cons pe_str (pa_cons pe_str (pa_cons pe_str (pa_cons pe_str (pa_cons pe_str (pa_cons pe_str (pa_cons pe_str (pa_cons pe_str (pa_cons pe_str (pa_cons pe_str pa_nil)))))))))))))), ?_⟩
  refine ⟨by show 10 ≤ sizeLine; decide, fun p hp => ⟨_, rfl, by show 10 ≤ sizeLine; decide, fun r hr2 => ?_⟩⟩
  have npr : p ≠ r := fun z => by rw [← z, upd_same] at hr2; cases hr2
  refine ⟨p, r, _, _, rfl, rfl, by rw [upd_ne npr, upd_same], upd_same, by show 20 ≤ sizeLine; decide, fun t ht => ?_⟩
  exact q t _ (((Sm.new hp).trans (Sm.new hr2)).trans (Sm.new ht)) (((Sm.new hp).trans (Sm.new hr2)).free ht) upd_same
end
end Hf
set_option Elab.async false
set_option maxRecDepth 100000
set_option maxHeartbeats 4000000
namespace Hf
open PySem L2
/-! ## heaps in which a few lists change -/
structure Sx (ex : List Addr) (H H' : Hp) : Prop where
  keep : ∀ b o, b ∉ ex → H b = some o → NTb o → H' b = some o
  tab : ∀ b q, H b = some (.tbl q) → ∃ q', H' b = some (.tbl q') ∧ (TriplesOk q.toList → TriplesOk q'.toList)
  there : ∀ b o, b ∈ ex → H b = some o → ∃ o', H' b = some o'
theorem Sm.sx {H H' : Hp} (s : Sm H H') {ex : List Addr} : Sx ex H H' := ⟨fun b o _ h n => s.keep b o h n, s.tab, fun b o _ h => by
  cases q : H' b with
  | some o' => exact ⟨o', rfl⟩
  | none =>
    rw [s.free q] at h
    cases h⟩
theorem Sx.free {ex : List Addr} {H H' : Hp} (e : Sx ex H H') {l : Addr} (h : H' l = Option.none) : H l = Option.none := by
  cases q : H l with
  | none => rfl
  | some o =>
    by_cases hx : l ∈ ex
    · obtain ⟨o', h'⟩ := e.there l o hx q
      rw [h'] at h
      cases h
    · by_cases hn : NTb o
      · rw [e.keep l o hx q hn] at h
        cases h
      · cases o with
        | tbl ps =>
          obtain ⟨q', h', _⟩ := e.tab l ps q
          rw [h'] at h
          cases h
        | _ => exact absurd (fun _ z => by cases z) hn
theorem Sx.trans {ex : List Addr} {H H1 H2 : Hp} (a : Sx ex H H1) (b : Sx ex H1 H2) : Sx ex H H2 :=
  ⟨fun c o x h n => b.keep c o x (a.keep c o x h n) n, fun c q h => by
    obtain ⟨q1, h1, t1⟩ := a.tab c q h
    obtain ⟨q2, h2, t2⟩ := b.tab c q1 h1
    exact ⟨q2, h2, fun z => t2 (t1 z)⟩, fun c o x h => let ⟨o1, h1⟩ := a.there c o x h; b.there c o1 x h1⟩
theorem Sx.putx {ex : List Addr} {H H' : Hp} (e : Sx ex H H') {p : Addr} {o : HO} {xs : List V} (hp : p ∈ ex) (hl : H p = some (.lst xs)) : Sx ex H (upd H' p o) :=
  ⟨fun b u x q n => by rw [upd_ne (fun z => x (by rw [z]; exact hp))]; exact e.keep b u x q n, fun b q z => by
    obtain ⟨q', h', t⟩ := e.tab b q z
    exact ⟨q', by rw [upd_ne (ne_of z hl (by intro z; cases z))]; exact h', t⟩, fun b u x q => by
    by_cases hb : b = p
    · rw [hb]; exact ⟨o, upd_same⟩
    · obtain ⟨o', h'⟩ := e.there b u x q
      exact ⟨o', by rw [upd_ne hb]; exact h'⟩⟩
theorem Sx.putn {ex : List Addr} {H H' : Hp} (e : Sx ex H H') {p : Addr} {o : HO} (h : H p = Option.none) : Sx ex H (upd H' p o) :=
  ⟨fun b u x q n => by rw [upd_ne (ne_of_none q h)]; exact e.keep b u x q n, fun b q z => by
    obtain ⟨q', h', t⟩ := e.tab b q z
    exact ⟨q', by rw [upd_ne (ne_of_none z h)]; exact h', t⟩, fun b u x q => let ⟨o', h'⟩ := e.there b u x q; ⟨o', by rw [upd_ne (ne_of_none q h)]; exact h'⟩⟩
theorem Sx.tabG {ex : List Addr} {H H' : Hp} (e : Sx ex H H') {P : Addr} (h : Tab H P) : Tab H' P := by
  obtain ⟨ps, h1, h2⟩ := h
  obtain ⟨q, h3, h4⟩ := e.tab P ps h1
  exact ⟨q, h3, h4 h2⟩
theorem Sx.lst {ex : List Addr} {H H' : Hp} (e : Sx ex H H') {a : Addr} {xs : List V} (x : a ∉ ex) (h : H a = some (.lst xs)) : H' a = some (.lst xs) := e.keep _ _ x h ntb_lst
/-- what is new -/
def dif (H H' : Hp) : Hp := fun b => match H b with
  | none => H' b
  | some _ => none
theorem dif_new {H H' : Hp} {b : Addr} (h : H b = none) : dif H H' b = H' b := by unfold dif; rw [h]
theorem dif_some {H H' : Hp} {b : Addr} {o : HO} (h : dif H H' b = some o) : H b = none ∧ H' b = some o := by
  unfold dif at h
  cases q : H b with
  | none => rw [q] at h; exact ⟨rfl, h⟩
  | some u => rw [q] at h; cases h
/-- .. but for L -/
def dX (H0 : Hp) (L : Addr) (H : Hp) : Hp := fun b => if b = L then none else dif H0 H b
theorem dX_some {H0 H : Hp} {L b : Addr} {o : HO} (h : dX H0 L H b = some o) : b ≠ L ∧ H0 b = none ∧ H b = some o := by
  unfold dX at h
  by_cases hb : b = L
  · rw [if_pos hb] at h; cases h
  · rw [if_neg hb] at h
    obtain ⟨h1, h2⟩ := dif_some h
    exact ⟨hb, h1, h2⟩
theorem dX_of {H0 H : Hp} {L b : Addr} {o : HO} (hb : b ≠ L) (h0 : H0 b = none) (h : H b = some o) : dX H0 L H b = some o := by
  unfold dX
  rw [if_neg hb, dif_new h0]
  exact h
theorem lk_le {H H' : Hp} (h : ∀ b o, H b = some o → H' b = some o) : Lk H H' := ⟨fun b xs e => h b _ e, fun b xs e => h b _ e⟩
theorem lk_dif {H H' : Hp} : Lk (dif H H') H' := lk_le fun b o e => (dif_some e).2
theorem lk_dX {H0 H : Hp} {L : Addr} : Lk (dX H0 L H) (dif H0 H) := lk_le fun b o e => by
  obtain ⟨_, h1, h2⟩ := dX_some e
  rw [dif_new h1]
  exact h2
/-! ## digits, three by three -/
abbrev Ck := Int × Int × Int
def flat : List Ck → List V
  | [] => []
  | (a, b, c) :: r => .int a :: .int b :: .int c :: flat r
def CkOk (c : Ck) : Prop := (0 ≤ c.1 ∧ c.1 < 4) ∧ (0 ≤ c.2.1 ∧ c.2.1 < 5) ∧ (0 ≤ c.2.2 ∧ c.2.2 < 8)
theorem flat_len : ∀ cs : List Ck, (flat cs).length = 3 * cs.length
  | [] => rfl
  | (a, b, c) :: r => by
    show (flat r).length + 1 + 1 + 1 = 3 * (r.length + 1)
    rw [flat_len r]; omega
mutual
def Tr.Wo : Tr → Prop
  | .leaf _ st => stOk st = true
  | .node _ _ ps => ps.toL ≠ [] ∧ ps.toL.length ≤ 6 ∧ ps.Wo
def Ps.Wo : Ps → Prop
  | .nil => True
  | .cons w t r => numOk 1 100 w = true ∧ t.Wo ∧ r.Wo
end
theorem Ps.Wo.of : ∀ {l : List (Int × Tr)}, (∀ x ∈ l, numOk 1 100 x.1 = true ∧ x.2.Wo) → (Ps.ofL l).Wo
  | [], _ => trivial
  | (w, t) :: l, h => ⟨(h (w, t) List.mem_cons_self).1, (h (w, t) List.mem_cons_self).2, Ps.Wo.of fun x hx => h x (List.mem_cons_of_mem _ hx)⟩
mutual
theorem Tr.NmOk.of : ∀ {t : Tr}, (∀ z ∈ t.names, PyData.strOk z = true) → t.NmOk
  | .leaf n st, h => h n (List.mem_singleton_self n)
  | .node b n ps, h => ⟨h n List.mem_cons_self, Ps.NmOk.of fun z hz => h z (List.mem_cons_of_mem _ hz)⟩
theorem Ps.NmOk.of : ∀ {p : Ps}, (∀ z ∈ p.names, PyData.strOk z = true) → p.NmOk
  | .nil, _ => trivial
  | .cons w t r, h => ⟨Tr.NmOk.of fun z hz => h z (List.mem_append_left _ hz), Ps.NmOk.of fun z hz => h z (List.mem_append_right _ hz)⟩
end
/-- the first parts of a plan in the making, all new but the list L itself -/
structure PlUp (H0 : Hp) (L : Addr) (H : Hp) (l : List (Int × Tr)) (acc : List V) : Prop where
  len : acc.length = l.length
  at_ : ∀ (j : Nat) (w : Int) (t : Tr), l[j]? = some (w, t) → ∃ (q : Addr) (v : V), acc[j]? = some (V.ref q) ∧ dX H0 L H q = some (.tup [.int w, v]) ∧ PlAt (dX H0 L H) t v
theorem PlUp.nil {H0 H : Hp} {L : Addr} : PlUp H0 L H [] [] := ⟨rfl, fun j w t e => by simp at e⟩
theorem PlUp.lk {H0 H H' : Hp} {L : Addr} {l : List (Int × Tr)} {acc : List V} (h : PlUp H0 L H l acc) (e : Lk (dX H0 L H) (dX H0 L H')) : PlUp H0 L H' l acc :=
  ⟨h.len, fun j w t z => let ⟨q, v, a, b, c⟩ := h.at_ j w t z; ⟨q, v, a, e.tup _ _ b, c.lk e⟩⟩
theorem PlUp.snoc {H0 H : Hp} {L : Addr} {l : List (Int × Tr)} {acc : List V} (h : PlUp H0 L H l acc) {w : Int} {t : Tr} {q : Addr} {v : V} (h1 : dX H0 L H q = some (.tup [.int w, v])) (h2 : PlAt (dX H0 L H) t v) : PlUp H0 L H (l ++ [(w, t)]) (acc ++ [V.ref q]) := by
  refine ⟨by rw [List.length_append, List.length_append, h.len]; rfl, fun j w' t' z => ?_⟩
  by_cases hj : j < l.length
  · rw [List.getElem?_append_left hj] at z
    obtain ⟨q', v', a, b, c⟩ := h.at_ j w' t' z
    exact ⟨q', v', by rw [List.getElem?_append_left (by rw [h.len]; exact hj)]; exact a, b, c⟩
  · have hj2 := get_lt z
    rw [List.length_append] at hj2
    have hj3 : ([(w, t)] : List (Int × Tr)).length = 1 := rfl
    have hj4 : j = l.length := by omega
    subst hj4
    rw [List.getElem?_append_right (Nat.le_refl _), Nat.sub_self] at z
    cases z
    exact ⟨q, v, by rw [List.getElem?_append_right (by rw [h.len]; exact Nat.le_refl _), h.len, Nat.sub_self]; rfl, h1, h2⟩
theorem PlUp.all {H0 H : Hp} {L : Addr} {l : List (Int × Tr)} {acc : List V} (h : PlUp H0 L H l acc) : PlPs (dX H0 L H) (Ps.ofL l) acc := PlPs.of h.len h.at_
theorem joinP {X G : Prop} (f : X → G) (x : X) : G := f x
theorem names_ofL (l : List (Int × Tr)) : (Ps.ofL l).names = l.flatMap (fun x => x.2.names) := by rw [Ps.names_toL, Ps.toL_ofL]
theorem lev_ofL {l : List (Int × Tr)} {n : Nat} (h : ∀ x ∈ l, x.2.lev ≤ n) : (Ps.ofL l).lev ≤ n := by
  induction l with
  | nil => exact Nat.zero_le _
  | cons x r ih =>
    obtain ⟨w, t⟩ := x
    show max t.lev (Ps.ofL r).lev ≤ n
    have h1 : t.lev ≤ n := h (w, t) List.mem_cons_self
    have h2 := ih fun x hx => h x (List.mem_cons_of_mem _ hx)
    omega
theorem steps_at {z : Int} (h0 : 0 ≤ z) (h8 : z < 8) : ∃ st : Option Int, atI [V.non, .int 1, .int 2, .int 3, .int 5, .int 7, .int 12, .int 1000] z = some (stV st) ∧ stOk st = true := by
  obtain ⟨j, rfl⟩ : ∃ j : Nat, z = (j : Int) := ⟨z.toNat, by omega⟩
  have hj : j < 8 := by omega
  match j, hj with
  | 0, _ => exact ⟨none, rfl, rfl⟩
  | 1, _ => exact ⟨some 1, rfl, rfl⟩
  | 2, _ => exact ⟨some 2, rfl, rfl⟩
  | 3, _ => exact ⟨some 3, rfl, rfl⟩
  | 4, _ => exact ⟨some 5, rfl, rfl⟩
  | 5, _ => exact ⟨some 7, rfl, rfl⟩
  | 6, _ => exact ⟨some 12, rfl, rfl⟩
  | 7, _ => exact ⟨some 1000, rfl, rfl⟩
theorem kind_at {z : Int} (h0 : 0 ≤ z) (h2 : z < 2) : ∃ b : Bool, atI [V.str "row", .str "bundle"] z = some (V.str (kindS b)) := by
  obtain ⟨j, rfl⟩ : ∃ j : Nat, z = (j : Int) := ⟨z.toNat, by omega⟩
  have hj : j < 2 := by omega
  match j, hj with
  | 0, _ => exact ⟨true, rfl⟩
  | 1, _ => exact ⟨false, rfl⟩
end Hf
set_option Elab.async false
set_option maxRecDepth 100000
set_option maxHeartbeats 8000000
namespace Hf
open PySem L2
theorem pop0 {x : V} {r : List V} : seqIndex? 0 (x :: r).length = some 0 := by
  unfold seqIndex?
  simp
theorem Lk.trans {H H1 H2 : Hp} (a : Lk H H1) (b : Lk H1 H2) : Lk H H2 := ⟨fun x xs h => b.tup _ _ (a.tup _ _ h), fun x xs h => b.lst _ _ (a.lst _ _ h)⟩
def spWork (n : Nat) : Sp := fun vs H Q _ => ∃ (d nl : Addr) (dp : Nat) (cs : List Ck) (ns : List Str), vs = [.ref d, .ref nl, .int dp] ∧ dp < n ∧ dp ≤ 8 ∧ H d = some (.lst (flat cs)) ∧ H nl = some (.lst (ns.map V.str)) ∧ cs ≠ [] ∧ ns ≠ [] ∧
  (∀ c ∈ cs, CkOk c) ∧ cs.length ≤ 300 ∧ ns.length ≤ 300 ∧ (∀ z ∈ ns, PyData.strOk z = true) ∧
  ∀ (t : Tr) (v : V) (cs' : List Ck) (ns' : List Str) (H' : Hp), Sx [d, nl] H H' → H' d = some (.lst (flat cs')) → H' nl = some (.lst (ns'.map V.str)) → (∃ pre, cs = pre ++ cs') → ns = t.names ++ ns' → PlAt (dif H H') t v → t.Wo → t.lev ≤ dp + 1 → Q v H'
section
variable {P : Program} {w : World} {K : PySem.W.Frag} {mg : Str → Option Value} {base : Heap}
theorem ok_work {f : Addr} {fd : FuncData} (D : Gf K mg "_law_work" sLawWork ["_law_digits", "_law_names_here", "_law_deep"] f fd) (b : Bi mg) : ∀ n : Nat, FnOk P w K mg base CX0 n f fd ["_law_digits", "_law_names_here", "_law_deep"] (spWork n)
  | 0 => none_lev fun vs H Q E ⟨d, nl, dp, cs, ns, _, h, _⟩ => by omega
  | n + 1 => by
    have G : FnOk P w K mg base CX0 n f fd ["_law_digits", "_law_names_here", "_law_deep"] (spWork n) := ok_work D b n
    refine D.F.ok scLawWork (fun vs H Q E h => ?_) (fun cdv A outer s H vs Q E hr h => ?_)
    · obtain ⟨d, nl, dp, cs, ns, rfl, _⟩ := h
      rfl
    obtain ⟨d, nl, dp, cs, ns, rfl, hdp, hdp8, hd, hn, c0, n0, hcs, lcs, lns, hok, q⟩ := h
    obtain ⟨⟨a0, b0, s0⟩, cr, rfl⟩ := List.exists_cons_of_ne_nil c0
    obtain ⟨nm, nr, rfl⟩ := List.exists_cons_of_ne_nil n0
    obtain ⟨⟨ka, kb⟩, ⟨ma, mb⟩, ⟨sa, sb⟩⟩ := hcs (a0, b0, s0) List.mem_cons_self
    dsimp only at ka kb ma mb sa sb
    have ndn : d ≠ nl := fun z => by
      rw [z, hn] at hd
      have e := Option.some.inj hd
      injection e with e
      cases e
    refine ⟨_, (pss_cons (ps_set (i := 3) scLawWork.nd rfl (.inl rfl) (pe_bm PySem.F.plainAttrs_list PySem.F.slot_list_pop PySem.F.type_list_pop mt_popAt (pv 1) (pa_cons pe_int pa_nil))) (pss_cons (ps_par3 (i := 4) (j := 5) (l := 6) rfl scLawWork.nd rfl rfl rfl (by decide) (by decide) (by decide) rfl rfl rfl (pa_cons (pe_bm PySem.F.plainAttrs_list PySem.F.slot_list_pop PySem.F.type_list_pop mt_popAt (pv 0) (pa_cons pe_int pa_nil)) (pa_cons (pe_bm PySem.F.plainAttrs_list PySem.F.slot_list_pop PySem.F.type_list_pop mt_popAt (pv 0) (pa_cons pe_int pa_nil)) (pa_cons (pe_bm PySem.F.plainAttrs_list PySem.F.slot_list_pop PySem.F.type_list_pop mt_popAt (pv 0) (pa_cons pe_int pa_nil)) pa_nil))) (by rfl)) (pss_cons (ps_if (PW.pt (pw_or (pt_cmpR op_eq (pv 2) pe_int (nomark _)) (pw_or (pt_cmpR op_lt (pv 4) pe_int (nomark _)) (pw_or (pt_cmpR op_lt (pe_callB call_len_seq (by rfl) b.len PySem.boot_len (pa_cons (pv 1) pa_nil)) pe_int (nomark _)) (pw_or1 (pt_cmpR op_lt (pe_callB call_len_seq (by rfl) b.len PySem.boot_len (pa_cons (pv 0) pa_nil)) pe_int (nomark _))))))) (pss_one (ps_ret (pe_tup (pa_cons pe_str (pa_cons (pv 3) (pa_cons (pe_ix ix_list (pe_lst (pa_cons pe_non (pa_cons pe_int (pa_cons pe_int (pa_cons pe_int (pa_cons pe_int (pa_cons pe_int (pa_cons pe_int (pa_cons pe_int pa_nil))))))))) (pv 6) (fun _ _ => rfl)) pa_nil)))))) pss_nil) (pss_cons (ps_set (i := 7) scLawWork.nd rfl (.inl rfl) (pe_lst pa_nil)) (pss_cons (ps_for PassesOwn.never rfl (pi_range1 (by rfl) b.range (pa_cons (pe_ifExp (pt_cmpR op_lt (pv 5) pe_int (nomark _)) (pe_op op_add pe_int (pv 5)) pe_int) pa_nil)) (pg_name (i := 8) scLawWork.nd rfl (.inl rfl)) (pss_one (ps_if (PW.pt (pw_and (pt_cmpR op_gt (pe_callB call_len_seq (by rfl) b.len PySem.boot_len (pa_cons (pv 1) pa_nil)) pe_int (nomark _)) (pw_and1 (pt_cmpR op_gt (pe_callB call_len_seq (by rfl) b.len PySem.boot_len (pa_cons (pv 0) pa_nil)) pe_int (nomark _))))) (C8.pss_cut (ps_set (i := 9) scLawWork.nd rfl (.inl rfl) (pe_ifExp (pt_cmpR op_eq (pe_ix ix_list (pv 0) pe_int (fun _ _ => rfl)) pe_int (nomark _)) (pe_op op_add pe_int (pe_op op_mul (pe_ix ix_list (pv 0) pe_int (fun _ _ => rfl)) pe_int)) (pe_op op_add pe_int (pe_ix ix_list (pv 0) pe_int (fun _ _ => rfl))))) (pss_one (ps_expr (pe_bm PySem.F.plainAttrs_list PySem.F.slot_list_append PySem.F.type_list_append mt_append (pv 7) (pa_cons (pe_tup (pa_cons (pe_callB (call_min2 rfl) (by rfl) b.min PyProof.Rows.boot_min (pa_cons pe_int (pa_cons (pv 9) pa_nil))) (pa_cons (pe_call G hr (by rfl) D.m D.F.kp D.b .nil pass0 (pa_cons (pv 0) (pa_cons (pv 1) (pa_cons (pe_op op_sub (pv 2) pe_int) pa_nil)))) pa_nil))) pa_nil))))) pss_nil))) (pss_cons (ps_if (pt_cmpR (op_eqD (hu64 hr)) (pv 7) (pe_lst pa_nil) (nomark _)) (pss_one (ps_ret (pe_tup (pa_cons pe_str (pa_cons (pv 3) (pa_cons pe_int pa_nil)))))) pss_nil) (pss_one (ps_ret (pe_tup (pa_cons (pe_ix ix_list (pe_lst (pa_cons pe_str (pa_cons pe_str pa_nil))) (pe_op op_mod (pv 4) pe_int) (fun _ _ => rfl)) (pa_cons (pv 3) (pa_cons (pv 7) pa_nil)))))))))))), ?_⟩
    have hd' : H d = some (.lst (.int a0 :: .int b0 :: .int s0 :: flat cr)) := hd
    have hn' : H nl = some (.lst (.str nm :: nr.map V.str)) := hn
    -- the pops
    refine ⟨_, rfl, .inl ⟨rfl, _, SqL.of hn'⟩, nl, _, 0, 0, _, rfl, rfl, hn', by decide, by decide, pop0, rfl, ?_⟩
    have e1 : upd H nl (.lst ((V.str nm :: nr.map V.str).eraseIdx 0)) d = some (.lst (.int a0 :: .int b0 :: .int s0 :: flat cr)) := by rw [upd_ne ndn]; exact hd'
    refine ⟨_, rfl, .inl ⟨rfl, _, SqL.of e1⟩, d, _, 0, 0, _, rfl, rfl, e1, by decide, by decide, pop0, rfl, ?_⟩
    refine ⟨_, rfl, .inl ⟨rfl, _, SqL.of upd_same⟩, d, _, 0, 0, _, rfl, rfl, upd_same, by decide, by decide, pop0, rfl, ?_⟩
    refine ⟨_, rfl, .inl ⟨rfl, _, SqL.of upd_same⟩, d, _, 0, 0, _, rfl, rfl, upd_same, by decide, by decide, pop0, rfl, ?_⟩
    refine ⟨_, _, _, rfl, ?_⟩
    have sB := ((((Sm.refl H).sx (ex := [d, nl])).putx (o := .lst ((V.str nm :: nr.map V.str).eraseIdx 0)) (List.mem_cons_of_mem _ List.mem_cons_self) hn').putx (o := .lst ((V.int a0 :: .int b0 :: .int s0 :: flat cr).eraseIdx 0)) List.mem_cons_self hd').putx (o := .lst (((V.int a0 :: .int b0 :: .int s0 :: flat cr).eraseIdx 0).eraseIdx 0)) List.mem_cons_self hd'
    have sB := sB.putx (o := .lst ((((V.int a0 :: .int b0 :: .int s0 :: flat cr).eraseIdx 0).eraseIdx 0).eraseIdx 0)) List.mem_cons_self hd'
    have bD : upd (upd (upd (upd H nl (.lst ((V.str nm :: nr.map V.str).eraseIdx 0))) d (.lst ((V.int a0 :: .int b0 :: .int s0 :: flat cr).eraseIdx 0))) d (.lst (((V.int a0 :: .int b0 :: .int s0 :: flat cr).eraseIdx 0).eraseIdx 0))) d (.lst ((((V.int a0 :: .int b0 :: .int s0 :: flat cr).eraseIdx 0).eraseIdx 0).eraseIdx 0)) d = some (.lst (flat cr)) := upd_same
    have bN : upd (upd (upd (upd H nl (.lst ((V.str nm :: nr.map V.str).eraseIdx 0))) d (.lst ((V.int a0 :: .int b0 :: .int s0 :: flat cr).eraseIdx 0))) d (.lst (((V.int a0 :: .int b0 :: .int s0 :: flat cr).eraseIdx 0).eraseIdx 0))) d (.lst ((((V.int a0 :: .int b0 :: .int s0 :: flat cr).eraseIdx 0).eraseIdx 0).eraseIdx 0)) nl = some (.lst (nr.map V.str)) := by
      rw [upd_ne ndn.symm, upd_ne ndn.symm, upd_ne ndn.symm]
      exact upd_same
    revert sB bD bN
    generalize upd (upd (upd (upd H nl (.lst ((V.str nm :: nr.map V.str).eraseIdx 0))) d (.lst ((V.int a0 :: .int b0 :: .int s0 :: flat cr).eraseIdx 0))) d (.lst (((V.int a0 :: .int b0 :: .int s0 :: flat cr).eraseIdx 0).eraseIdx 0))) d (.lst ((((V.int a0 :: .int b0 :: .int s0 :: flat cr).eraseIdx 0).eraseIdx 0).eraseIdx 0)) = Hb
    intro sB bD bN
    have dB : Hb d = some (.lst (flat cr)) := bD
    have LD : ∀ {H' : Hp}, Sx [d, nl] Hb H' → Sx [d, nl] H H' := fun e => sB.trans e
    have dB : Hb d = some (.lst (flat cr)) := bD
    have LD : ∀ {H' : Hp}, Sx [d, nl] Hb H' → Sx [d, nl] H H' := fun e => sB.trans e
    refine' joinP (fun leaf => _) _
    rotate_left 1
    · -- deep == 0 or kind < 2 or len(names) < 3 or len(digits) < 12
      refine ⟨_, rfl, rfl, _, rfl, ?_⟩
      by_cases t1 : V.int (dp : Nat) = V.int 0
      · rw [decide_eq_true t1]
        exact iteT (iteT leaf)
      rw [decide_eq_false t1]
      refine iteF ⟨_, rfl, _, _, rfl, rfl, _, rfl, ?_⟩
      by_cases t2 : a0 < 2
      · rw [decide_eq_true t2]
        exact iteT (iteT leaf)
      rw [decide_eq_false t2]
      refine iteF ⟨_, rfl, nl, _, rfl, .inl (SqL.of bN), _, _, rfl, rfl, _, rfl, ?_⟩
      rw [List.length_map]
      by_cases t3 : ((nr.length : Nat) : Int) < 3
      · rw [decide_eq_true t3]
        exact iteT (iteT leaf)
      rw [decide_eq_false t3]
      refine iteF ⟨_, rfl, d, _, rfl, .inl (SqL.of bD), _, _, rfl, rfl, _, rfl, ?_⟩
      by_cases t4 : (((flat cr).length : Nat) : Int) < 12
      · rw [decide_eq_true t4]
        exact iteT leaf
      rw [decide_eq_false t4]
      refine iteF ?_
      clear leaf
      obtain ⟨e, rfl⟩ : ∃ e, dp = e + 1 := ⟨dp - 1, by
        have : dp ≠ 0 := fun z => t1 (by rw [z]; rfl)
        omega⟩
      -- parts = []
      refine ⟨by show 0 ≤ sizeLine; decide, fun L hL => ?_⟩
      have HL : H L = none := sB.free hL
      have nLd : L ≠ d := fun z => by rw [z, bD] at hL; cases hL
      have nLn : L ≠ nl := fun z => by rw [z, bN] at hL; cases hL
      refine ⟨_, rfl, _, _, rfl, rfl, _, rfl, ?_⟩
      by_cases t5 : b0 < 4
      case' pos =>
        rw [decide_eq_true t5]
        refine iteT ⟨_, rfl, _, _, rfl, rfl, 1 + b0, rfl, by omega, by omega, ?_⟩
        obtain ⟨k, hk, k6⟩ : ∃ k, (1 + b0).toNat = k ∧ k ≤ 6 := ⟨_, rfl, by omega⟩
        rw [hk]
        clear hk
      case' neg =>
        rw [decide_eq_false t5]
        refine iteF ⟨6, rfl, by decide, by decide, ?_⟩
        obtain ⟨k, hk, k6⟩ : ∃ k, (6 : Int).toNat = k ∧ k ≤ 6 := ⟨_, rfl, by decide⟩
        rw [hk]
        clear hk
      all_goals
        clear t5
        refine for_range (lo := 0) (n := k) (fun i σ H1 => ∃ (l : List (Int × Tr)) (acc : List V) (cs1 : List Ck) (ns1 : List Str) (v8 v9 : Option V),
          σ = [some (V.ref d), some (.ref nl), some (.int (e + 1 : Nat)), some (.str nm), some (.int a0), some (.int b0), some (.int s0), some (.ref L), v8, v9] ∧ Sx [d, nl] H H1 ∧ H1 d = some (.lst (flat cs1)) ∧ H1 nl = some (.lst (ns1.map V.str)) ∧ H1 L = some (.lst acc) ∧ PlUp H L H1 l acc ∧
          l.length ≤ i ∧ (∃ pre, cr = pre ++ cs1) ∧ nr = l.flatMap (fun x => x.2.names) ++ ns1 ∧ ∀ x ∈ l, numOk 1 100 x.1 = true ∧ x.2.Wo ∧ x.2.lev ≤ e + 1)
          ⟨[], [], cr, nr, none, none, rfl, sB.putn HL, by rw [upd_ne nLd.symm]; exact bD, by rw [upd_ne nLn.symm]; exact bN, upd_same, PlUp.nil, Nat.le_refl 0, ⟨[], rfl⟩, rfl, fun x hx => by cases hx⟩ ?_ ?_
        · rintro i σ H1 ik ⟨l, acc, cs1, ns1, v8, v9, rfl, s1, h1D, h1N, h1L, up, hli, ⟨pre, hpre⟩, hnr, hl⟩
          refine ⟨_, rfl, nl, _, rfl, .inl (SqL.of h1N), _, _, rfl, rfl, _, rfl, ?_⟩
          rw [List.length_map]
          by_cases u1 : ((ns1.length : Nat) : Int) > 1
          case neg =>
            rw [decide_eq_false u1]
            exact iteF (iteF ⟨l, acc, cs1, ns1, _, v9, rfl, s1, h1D, h1N, h1L, up, Nat.le_succ_of_le hli, ⟨pre, hpre⟩, hnr, hl⟩)
          rw [decide_eq_true u1]
          refine iteT ⟨_, rfl, d, _, rfl, .inl (SqL.of h1D), _, _, rfl, rfl, _, rfl, ?_⟩
          by_cases u2 : (((flat cs1).length : Nat) : Int) > 6
          case neg =>
            rw [decide_eq_false u2]
            exact iteF ⟨l, acc, cs1, ns1, _, v9, rfl, s1, h1D, h1N, h1L, up, Nat.le_succ_of_le hli, ⟨pre, hpre⟩, hnr, hl⟩
          rw [decide_eq_true u2]
          refine iteT ?_
          rw [flat_len] at u2
          obtain ⟨⟨x1, x2, x3⟩, cs2, rfl⟩ : ∃ c r, cs1 = c :: r := by
            cases cs1 with
            | nil => simp at u2
            | cons c r => exact ⟨c, r, rfl⟩
          have memc : ∀ c ∈ (x1, x2, x3) :: cs2, CkOk c := fun c hc => hcs c (List.mem_cons_of_mem _ (by rw [hpre]; exact List.mem_append_right _ hc))
          obtain ⟨⟨xa, xb⟩, _, ⟨xc, xd⟩⟩ := memc _ List.mem_cons_self
          dsimp only at xa xb xc xd
          -- weight
          refine ⟨fun σ' H' => ∃ wv : Int, 1 ≤ wv ∧ wv ≤ 100 ∧ σ' = [some (V.ref d), some (.ref nl), some (.int (e + 1 : Nat)), some (.str nm), some (.int a0), some (.int b0), some (.int s0), some (.ref L), some (.int (0 + (i : Int))), some (.int wv)] ∧ H' = H1, ?_, ?_⟩
          · refine ⟨_, rfl, d, _, _, _, rfl, rfl, SqL.of h1D, at_of (j := 2) (v := V.int x3) rfl rfl, rfl, _, rfl, ?_⟩
            by_cases u3 : V.int x3 = V.int 7
            · rw [decide_eq_true u3]
              exact iteT ⟨_, rfl, d, _, _, _, rfl, rfl, SqL.of h1D, at_of (j := 0) (v := V.int x1) rfl rfl, _, _, rfl, rfl, .inr ⟨by decide, by decide⟩, _, _, rfl, rfl, 1 + x1 * 33, by omega, by omega, rfl, rfl⟩
            · rw [decide_eq_false u3]
              exact iteF ⟨_, rfl, d, _, _, _, rfl, rfl, SqL.of h1D, at_of (j := 0) (v := V.int x1) rfl rfl, _, _, rfl, rfl, 1 + x1, by omega, by omega, rfl, rfl⟩
          rintro σ' H1' ⟨wv, w1, w100, rfl, rfl⟩
          -- parts.append((min(100, weight), _law_work(digits, names, deep - 1)))
          have eq1 : (((e + 1 : Nat) : Int) - 1) = ((e : Nat) : Int) := by omega
          have ns1ne : ns1 ≠ [] := fun z => by rw [z] at u1; simp at u1
          have okn : ∀ z ∈ ns1, PyData.strOk z = true := fun z hz => hok z (List.mem_cons_of_mem _ (by rw [hnr]; exact List.mem_append_right _ hz))
          have lc2 : ((x1, x2, x3) :: cs2).length ≤ 300 := by
            have z := congrArg List.length hpre
            rw [List.length_append] at z
            rw [List.length_cons] at lcs
            omega
          have ln2 : ns1.length ≤ 300 := by
            have z := congrArg List.length hnr
            rw [List.length_append] at z
            rw [List.length_cons] at lns
            omega
          refine ⟨_, rfl, .inl ⟨rfl, _, SqL.of h1L⟩, _, rfl, _, _, rfl, _, rfl, _, rfl, _, rfl, _, _, rfl, rfl, d, nl, e, (x1, x2, x3) :: cs2, ns1, by show [V.ref d, .ref nl, .int (((e + 1 : Nat) : Int) - 1)] = _; rw [eq1], by omega, by omega, h1D, h1N, by simp, ns1ne, memc, lc2, ln2, okn, fun t v cs3 ns3 H2 s2 h2D h2N hpre2 hnm pl wo lev => ?_⟩
          obtain ⟨pre2, hpre2⟩ := hpre2
          have h2L : H2 L = some (.lst acc) := s2.lst (by simp [nLd, nLn]) h1L
          have s12 := s1.trans s2
          refine ⟨by show 2 ≤ sizeLine; decide, fun p hp => ?_⟩
          have nLp : L ≠ p := ne_of_none h2L hp
          have Hp0 : H p = none := s12.free hp
          have nok : numOk 1 100 (if wv < 100 then wv else 100) = true := by
            unfold numOk
            split <;> simp <;> omega
          have acc6 : acc.length ≤ 1000 := by have := up.len; omega
          refine ⟨L, acc, _, rfl, rfl, by rw [upd_ne nLp]; exact h2L, small1000 acc6, ?_⟩
          have s3 : Sx [d, nl] H (upd (upd H2 p (.tup [.int (if wv < 100 then wv else 100), v])) L (.lst (acc ++ [V.ref p]))) := (s12.putn Hp0).putn HL
          have keepD : ∀ z, z = d ∨ z = nl → z ≠ L ∧ z ≠ p := fun z hz => by
            rcases hz with rfl | rfl
            · exact ⟨nLd.symm, ne_of_none h2D hp⟩
            · exact ⟨nLn.symm, ne_of_none h2N hp⟩
          -- what was new stays
          have lk1 : Lk (dX H L H1') (dX H L (upd (upd H2 p (.tup [.int (if wv < 100 then wv else 100), v])) L (.lst (acc ++ [V.ref p])))) := by
            have go : ∀ b o, NTb o → dX H L H1' b = some o → dX H L (upd (upd H2 p (.tup [.int (if wv < 100 then wv else 100), v])) L (.lst (acc ++ [V.ref p]))) b = some o := fun b o nt hb => by
              obtain ⟨b1, b2, b3⟩ := dX_some hb
              have bex : b ∉ [d, nl] := fun z => by
                rcases List.mem_cons.mp z with z | z
                · rw [z, hd] at b2; cases b2
                · rw [List.mem_singleton.mp z, hn] at b2; cases b2
              have b4 := s2.keep b o bex b3 nt
              exact dX_of b1 b2 (by rw [upd_ne b1, upd_ne (ne_of_none b4 hp)]; exact b4)
            exact ⟨fun b xs hb => go b _ ntb_tup hb, fun b xs hb => go b _ ntb_lst hb⟩
          have lk2 : Lk (dif H1' H2) (dX H L (upd (upd H2 p (.tup [.int (if wv < 100 then wv else 100), v])) L (.lst (acc ++ [V.ref p])))) := lk_le fun b o hb => by
            obtain ⟨b1, b2⟩ := dif_some hb
            have bL : b ≠ L := fun z => by rw [z, h1L] at b1; cases b1
            exact dX_of bL (s1.free b1) (by rw [upd_ne bL, upd_ne (ne_of_none b2 hp)]; exact b2)
          refine ⟨l ++ [(if wv < 100 then wv else 100, t)], acc ++ [V.ref p], cs3, ns3, _, _, rfl, s3, by rw [upd_ne (keepD d (.inl rfl)).1, upd_ne (keepD d (.inl rfl)).2]; exact h2D, by rw [upd_ne (keepD nl (.inr rfl)).1, upd_ne (keepD nl (.inr rfl)).2]; exact h2N, upd_same, ?_, by rw [List.length_append]; exact Nat.succ_le_succ hli, ⟨pre ++ pre2, by rw [hpre, hpre2, List.append_assoc]⟩, ?_, fun x hx => ?_⟩
          · exact (up.lk lk1).snoc (dX_of nLp.symm Hp0 (by rw [upd_ne nLp.symm, upd_same])) (pl.lk lk2)
          · rw [hnr, hnm, List.flatMap_append, List.flatMap_cons, List.flatMap_nil, List.append_nil, List.append_assoc]
          · rcases List.mem_append.mp hx with hx | hx
            · exact hl x hx
            · rw [List.mem_singleton.mp hx]
              exact ⟨nok, wo, lev⟩
        · rintro σ H1 ⟨l, acc, cs1, ns1, v8, v9, rfl, s1, h1D, h1N, h1L, up, hli, ⟨pre, hpre⟩, hnr, hl⟩
          have levL : (Ps.ofL l).lev ≤ e + 1 := lev_ofL fun x hx => (hl x hx).2.2
          have okN : (Ps.ofL l).NmOk := Ps.NmOk.of fun z hz => hok z (List.mem_cons_of_mem _ (by rw [hnr, ← names_ofL]; exact List.mem_append_left _ hz))
          have shp : SeqAt.shaped (.list (Ps.ofL l).dat) = true := by
            unfold SeqAt.shaped
            rw [show (PyData.list (Ps.ofL l).dat).canLay0 = PyData.canLayAll0 (Ps.ofL l).dat from rfl, Ps.lay okN, show (PyData.list (Ps.ofL l).dat).depth = PyData.depthAll (Ps.ofL l).dat + 1 from rfl]
            have z := Ps.dep (Ps.ofL l)
            exact decide_eq_true (by omega)
          refine ⟨_, rfl, by show 0 ≤ sizeLine; decide, fun r hr2 => ?_⟩
          have Hr0 : H r = none := s1.free hr2
          have nLr : L ≠ r := ne_of_none h1L hr2
          have dpL : Dp K (upd H1 r (.lst [])) (V.ref L) (.list (Ps.ofL l).dat) := .lst (SqL.of (by rw [upd_ne nLr]; exact h1L)) ((up.all.lk (Lk.trans lk_dX (Lk.trans lk_dif (Sm.new hr2).lk))).dp)
          refine ⟨_, _, dpL, .lst (SqL.of upd_same) .nil, shp, nil_shaped, _, rfl, ?_⟩
          have s2 : Sx [d, nl] H (upd H1 r (.lst [])) := s1.putn Hr0
          cases l with
          | nil =>
            rw [show PyData.eqv (.list (Ps.ofL []).dat) (.list []) = true from rfl]
            refine iteT ⟨_, rfl, by show 3 ≤ sizeLine; decide, fun a ha => ?_⟩
            have Ha0 : H a = none := s2.free ha
            have sm2 := (Sm.new (o := HO.lst []) hr2).trans (Sm.new (o := HO.tup [V.str "leaf", .str nm, .int 3]) ha)
            refine q (.leaf nm (some 3)) (.ref a) cs1 ns1 _ (s2.putn Ha0) (sm2.lst h1D) (sm2.lst h1N) ⟨(a0, b0, s0) :: pre, by rw [hpre]; rfl⟩ (by rw [hnr]; rfl) ⟨a, rfl, by rw [dif_new Ha0]; exact upd_same⟩ rfl (by show 1 ≤ e + 1 + 1; omega)
          | cons y ys =>
            rw [show PyData.eqv (.list (Ps.ofL (y :: ys)).dat) (.list []) = false from rfl]
            refine iteF ?_
            have k0 := Int.emod_nonneg a0 (show (2 : Int) ≠ 0 by decide)
            have k1 := Int.emod_lt_of_pos a0 (show (0 : Int) < 2 by decide)
            obtain ⟨bb, hbb⟩ := kind_at k0 k1
            refine ⟨by show 2 ≤ sizeLine; decide, fun x hx => ⟨_, rfl, _, _, rfl, rfl, by show (0 : Int) < 2; decide, x, _, _, _, rfl, rfl, SqL.of upd_same, hbb, _, rfl, _, rfl, by show 3 ≤ sizeLine; decide, fun a ha => ?_⟩⟩
            have Hx0 : H x = none := s2.free hx
            have s3 : Sx [d, nl] H (upd (upd H1 r (.lst [])) x (.lst [.str "row", .str "bundle"])) := s2.putn Hx0
            have Ha0 : H a = none := s3.free ha
            have sm2 := ((Sm.new (o := HO.lst []) hr2).trans (Sm.new (o := HO.lst [.str "row", .str "bundle"]) hx)).trans (Sm.new (o := HO.tup [V.str (kindS bb), .str nm, .ref L]) ha)
            refine q (.node bb nm (Ps.ofL (y :: ys))) (.ref a) cs1 ns1 _ (s3.putn Ha0) (sm2.lst h1D) (sm2.lst h1N) ⟨(a0, b0, s0) :: pre, by rw [hpre]; rfl⟩ ?_ ⟨a, L, acc, rfl, by rw [dif_new Ha0]; exact upd_same, by rw [dif_new HL]; exact sm2.lst h1L, ?_⟩ ⟨by rw [Ps.toL_ofL]; simp, by rw [Ps.toL_ofL]; omega, Ps.Wo.of fun z hz => ⟨(hl z hz).1, (hl z hz).2.1⟩⟩ (by show (Ps.ofL (y :: ys)).lev + 1 ≤ e + 1 + 1; omega)
            · show nm :: nr = (nm :: (Ps.ofL (y :: ys)).names) ++ ns1
              rw [hnr, names_ofL]
              rfl
            · refine up.all.lk (lk_le fun b o hb => ?_)
              obtain ⟨b1, b2, b3⟩ := dX_some hb
              rw [dif_new b2]
              have n1 : b ≠ r := fun z => by rw [z, hr2] at b3; cases b3
              have b4 : upd H1 r (.lst []) b = some o := by rw [upd_ne n1]; exact b3
              have n2 : b ≠ x := fun z => by rw [z, hx] at b4; cases b4
              have b5 : upd (upd H1 r (.lst [])) x (.lst [.str "row", .str "bundle"]) b = some o := by rw [upd_ne n2]; exact b4
              have n3 : b ≠ a := fun z => by rw [z, ha] at b5; cases b5
              rw [upd_ne n3]
              exact b5
    · obtain ⟨st, hat, hst⟩ := steps_at sa sb
      refine ⟨_, rfl, by show 8 ≤ sizeLine; decide, fun p hp => ⟨_, rfl, p, _, s0, _, rfl, rfl, SqL.of upd_same, hat, by show 3 ≤ sizeLine; decide, fun a ha => ?_⟩⟩
      have s1 := sB.putn (o := .lst [V.non, .int 1, .int 2, .int 3, .int 5, .int 7, .int 12, .int 1000]) (sB.free hp)
      have Ha0 : H a = none := s1.free ha
      have sm2 := (Sm.new (o := HO.lst [V.non, .int 1, .int 2, .int 3, .int 5, .int 7, .int 12, .int 1000]) hp).trans (Sm.new (o := HO.tup [V.str "leaf", .str nm, stV st]) ha)
      exact q (.leaf nm st) (.ref a) cr nr _ (s1.putn Ha0) (sm2.lst bD) (sm2.lst bN) ⟨[(a0, b0, s0)], rfl⟩ rfl ⟨a, rfl, by rw [dif_new Ha0]; exact upd_same⟩ hst (by show 1 ≤ dp + 1; omega)
end
end Hf
set_option Elab.async false
set_option maxRecDepth 100000
set_option maxHeartbeats 8000000
namespace Hf
open PySem L2
theorem Sm.of_sx {ex : List Addr} {H H1 H2 : Hp} (a : Sm H H1) (b : Sx ex H1 H2) (h : ∀ p ∈ ex, H p = none) : Sm H H2 :=
  ⟨fun c o e n => b.keep c o (fun z => by rw [h c z] at e; cases e) (a.keep c o e n) n, fun c q e => by
    obtain ⟨q1, h1, t1⟩ := a.tab c q e
    obtain ⟨q2, h2, t2⟩ := b.tab c q1 h1
    exact ⟨q2, h2, fun z => t2 (t1 z)⟩⟩
theorem ixN0 {n : Nat} (h : 0 < n) : ixN n 0 = some 0 := by
  unfold ixN
  rw [if_pos (by decide), if_pos (by omega)]
  rfl
theorem flat_append : ∀ a b : List Ck, flat (a ++ b) = flat a ++ flat b
  | [], _ => rfl
  | (x, y, z) :: r, b => by
    show _ :: _ :: _ :: flat (r ++ b) = _
    rw [flat_append r b]
    rfl
abbrev bnds : List Int := [4, 5, 8, 4, 5, 8, 4, 5, 8]
theorem chunks {ds : List Int} (h : ds.length = 9) (hb : ∀ (i : Nat) (d b : Int), ds[i]? = some d → bnds[i]? = some b → 0 ≤ d ∧ d < b) : ∃ cs : List Ck, cs.length = 3 ∧ ds.map V.int = flat cs ∧ ∀ c ∈ cs, CkOk c := by
  match ds, h with
  | [x0, x1, x2, x3, x4, x5, x6, x7, x8], _ =>
    refine ⟨[(x0, x1, x2), (x3, x4, x5), (x6, x7, x8)], rfl, rfl, fun c hc => ?_⟩
    have h0 := hb 0 x0 4 rfl rfl
    have h1 := hb 1 x1 5 rfl rfl
    have h2 := hb 2 x2 8 rfl rfl
    have h3 := hb 3 x3 4 rfl rfl
    have h4 := hb 4 x4 5 rfl rfl
    have h5 := hb 5 x5 8 rfl rfl
    have h6 := hb 6 x6 4 rfl rfl
    have h7 := hb 7 x7 5 rfl rfl
    have h8 := hb 8 x8 8 rfl rfl
    rcases List.mem_cons.mp hc with rfl | hc
    · exact ⟨h0, h1, h2⟩
    rcases List.mem_cons.mp hc with rfl | hc
    · exact ⟨h3, h4, h5⟩
    · rw [List.mem_singleton.mp hc]
      exact ⟨h6, h7, h8⟩
theorem cut_from {xs : List V} {s : Nat} (h : s ≤ xs.length) : cutV xs (some (s : Int)) none = xs.drop s := by
  unfold cutV
  rw [HT.sIx_nat, HT.sIx_none, Nat.min_eq_left h, List.take_of_length_le (by rw [List.length_drop]; exact Nat.le_refl _)]
theorem cut_to {xs : List V} {s : Nat} (h : s ≤ xs.length) : cutV xs none (some (s : Int)) = xs.take s := by
  unfold cutV
  rw [HT.sIx_nat, HT.sIx_none, Nat.min_eq_left h, Nat.sub_zero, List.drop_zero]
/-- the sixteen names of a plan that begins at s -/
def names16 (s : Nat) : List Str := (nameL.drop s ++ nameL.take s).take 16
theorem names16_ok : ∀ s : Fin 20, (names16 s.1).length = 16 ∧ (names16 s.1).Nodup ∧ ∀ z ∈ names16 s.1, nameOk z = true := by decide +kernel
mutual
theorem Tr.Ok.of : ∀ {t : Tr}, t.Wo → t.names.Nodup → (∀ z ∈ t.names, nameOk z = true) → t.names.length ≤ 20 → t.lev ≤ 5 → t.Ok
  | .leaf n st, w, _, o, _, _ => ⟨o n (List.mem_singleton_self n), w⟩
  | .node b n ps, w, nd, o, le, lv => by
    refine ⟨o n List.mem_cons_self, w.1, w.2.1, ?_, ?_⟩
    · have e : (Tr.node b n ps).names = n :: ps.names := rfl
      rw [e] at nd le
      have lv2 : ps.lev + 1 ≤ 5 := lv
      rw [List.length_cons] at le
      exact Ps.Ok.of w.2.2 (List.nodup_cons.mp nd).2 (fun z hz => o z (List.mem_cons_of_mem _ hz)) (by omega) (by omega)
    · unfold planOk
      rw [decide_eq_true nd, decide_eq_true le, decide_eq_true lv]
      rfl
theorem Ps.Ok.of : ∀ {p : Ps}, p.Wo → p.names.Nodup → (∀ z ∈ p.names, nameOk z = true) → p.names.length ≤ 20 → p.lev ≤ 5 → p.Ok
  | .nil, _, _, _, _, _ => trivial
  | .cons w t r, h, nd, o, le, lv => by
    have e : (Ps.cons w t r).names = t.names ++ r.names := rfl
    rw [e] at nd le o
    have lv2 : max t.lev r.lev ≤ 5 := lv
    rw [List.length_append] at le
    have nd2 := List.nodup_append.mp nd
    exact ⟨h.1, Tr.Ok.of h.2.1 nd2.1 (fun z hz => o z (List.mem_append_left _ hz)) (by omega) (by omega), Ps.Ok.of h.2.2 nd2.2.1 (fun z hz => o z (List.mem_append_right _ hz)) (by omega) (by omega)⟩
end
theorem nameOk_str {z : Str} (h : nameOk z = true) : PyData.strOk z = true := by
  unfold nameOk at h
  rw [Bool.and_eq_true] at h
  unfold PyData.strOk
  rw [← Array.all_toList, List.all_eq_true]
  intro c hc
  have q := (List.all_eq_true.mp h.2) c hc
  rw [Bool.and_eq_true] at q
  have q2 := of_decide_eq_true q.2
  exact decide_eq_true (by omega)
/-- a plan as the law draws them -/
structure Drawn (t : Tr) : Prop where
  ok : t.Ok
  lev : t.lev ≤ 5
  nd : t.names.Nodup
  few : t.names.length ≤ 16
  nm : ∀ z ∈ t.names, nameOk z = true
def spDraw (K : PySem.W.Frag) : Sp := fun vs H Q _ => ∃ (a : Addr) (at_ : Int) (ns : List Int), vs = [.ref a, .int at_] ∧ 0 ≤ at_ ∧ SqL K H a (ns.map V.int) ∧ ns.length ≤ 63 ∧ ∀ (t : Tr) (v : V) (H' : Hp), Sm H H' → PlAt H' t v → Drawn t → Q v H'
section
variable {P : Program} {w : World} {K : PySem.W.Frag} {mg : Str → Option Value} {base : Heap}
theorem ok_draw {f fC fN fM fW : Addr} {fd fdC fdN fdM fdW : FuncData} (D : Gf K mg "_law_plan" sLawPlan ["_law_script", "_law_at"] f fd) (C : Gf K mg "_law_cell_at" sLawCellAt ["_law_script", "_law_k"] fC fdC) (N : Gf K mg "_law_numbers" sLawNumbers ["_law_cell", "_law_bounds"] fN fdN)
    (M : Gf K mg "_law_names" sLawNames [] fM fdM) (W : Gf K mg "_law_work" sLawWork ["_law_digits", "_law_names_here", "_law_deep"] fW fdW) (b : Bi mg) : FnOk P w K mg base CX0 7 f fd ["_law_script", "_law_at"] (spDraw K) := by
  have GC : FnOk P w K mg base CX0 6 fC fdC ["_law_script", "_law_k"] (spCell K) := ok_cell C b
  have GN : FnOk P w K mg base CX0 1 fN fdN ["_law_cell", "_law_bounds"] (spNumbers K) := ok_numbers N
  have GM : FnOk P w K mg base CX0 1 fM fdM [] spNames := ok_names M
  have GW : FnOk P w K mg base CX0 6 fW fdW ["_law_digits", "_law_names_here", "_law_deep"] (spWork 6) := ok_work W b 6
  refine D.F.ok scLawPlan (fun vs H Q E h => ?_) (fun cdv A outer s H vs Q E hr h => ?_)
  · obtain ⟨a, k, ns, rfl, _⟩ := h
    rfl
  obtain ⟨a, at_, ns, rfl, h0, hS, h63, q⟩ := h
  refine ⟨_, (pss_cons (ps_set (i := 2) scLawPlan.nd rfl (.inl rfl) (pe_lst pa_nil)) (pss_cons (ps_for PassesOwn.never rfl (pi_range1 (by rfl) b.range (pa_cons pe_int pa_nil)) (pg_name (i := 3) scLawPlan.nd rfl (.inl rfl)) (pss_one (ps_set (i := 2) scLawPlan.nd rfl (.inl rfl) (pe_op op_cat (pv 2) (pe_call GN (hr.mono (by decide)) (by rfl) N.m N.F.kp N.b .nil pass0 (pa_cons (pe_call GC (hr.mono (by decide)) (by rfl) C.m C.F.kp C.b .nil pass0 (pa_cons (pv 0) (pa_cons (pe_op op_add (pv 1) (pv 3)) pa_nil))) (pa_cons (pe_op op_rep (pe_lst (pa_cons pe_int (pa_cons pe_int (pa_cons pe_int pa_nil)))) pe_int) pa_nil))))))) (C8.pss_cut (ps_asg (pe_ifExp (pt_cmpR op_gt (pe_op op_mod (pe_call GC (hr.mono (by decide)) (by rfl) C.m C.F.kp C.b .nil pass0 (pa_cons (pv 0) (pa_cons (pv 1) pa_nil))) pe_int) pe_int (nomark _)) (pe_op op_add pe_int (pe_op op_mod (pe_ix ix_list (pv 2) pe_int (fun _ _ => rfl)) pe_int)) (pe_ix ix_list (pv 2) pe_int (fun _ _ => rfl))) (pg_sub (pv 2) pe_int set_list)) (pss_cons (ps_set (i := 4) scLawPlan.nd rfl (.inl rfl) (pe_op op_mod (pe_call GC (hr.mono (by decide)) (by rfl) C.m C.F.kp C.b .nil pass0 (pa_cons (pv 0) (pa_cons (pe_op op_add (pv 1) pe_int) pa_nil))) pe_int)) (pss_cons (ps_set (i := 5) scLawPlan.nd rfl (.inl rfl) (pe_call0 GM (hr.mono (by decide)) (by rfl) M.m M.F.kp M.b .nil pass0)) (pss_one (ps_ret (pe_call GW (hr.mono (by decide)) (by rfl) W.m W.F.kp W.b .nil pass0 (pa_cons (pv 2) (pa_cons (pe_slice sl_list (pe_op op_cat (pe_slice sl_list (pv 5) (po_some (pv 4)) po_none) (pe_slice sl_list (pv 5) po_none (po_some (pv 4)))) po_none (po_some pe_int)) (pa_cons (pe_op op_add pe_int (pe_op op_mod (pv 4) pe_int)) pa_nil))))))))))), ?_⟩
  refine ⟨by show 0 ≤ sizeLine; decide, fun p0 hp0 => ?_⟩
  have s0 : Sm H (upd H p0 (.lst [])) := Sm.new hp0
  refine ⟨6, rfl, by decide, by decide, for_range (lo := 0) (n := 6) (fun i σ H1 => ∃ (p : Addr) (cs : List Ck) (v3 : Option V), σ = [some (V.ref a), some (.int at_), some (.ref p), v3, none, none] ∧ Sm H H1 ∧ H p = none ∧ H1 p = some (.lst (flat cs)) ∧ cs.length = 3 * i ∧ ∀ c ∈ cs, CkOk c)
    ⟨p0, [], none, rfl, s0, hp0, upd_same, rfl, fun c hc => by cases hc⟩ ?_ ?_⟩
  · rintro i σ H1 hi ⟨p, cs, v3, rfl, s1, hp, h1p, hl, hc⟩
    refine ⟨_, rfl, _, rfl, _, rfl, _, rfl, _, _, rfl, rfl, a, at_ + (0 + (i : Int)), ns, rfl, s1.seqL hS, h63, by omega, fun z H2 s2 => ?_⟩
    refine ⟨by show 3 ≤ sizeLine; decide, fun r hr2 => ⟨r, 3, _, rfl, rfl, upd_same, by decide, by decide, by decide, fun u hu => ?_⟩⟩
    have s3 := (Sm.new (o := HO.lst [V.int 4, .int 5, .int 8]) hr2)
    refine ⟨z, u, bnds, rfl, SqL.of (Eq.trans upd_same rfl), by decide, by decide, fun p2 ds H3 s4 hp2 h3 hl3 hb3 => ?_⟩
    obtain ⟨cs2, l2, e2, c2⟩ := chunks hl3 hb3
    have h3p : H3 p = some (.lst (flat cs)) := s4.lst ((Sm.new hu).lst (s3.lst (s2.lst h1p)))
    have sA : Sm H H3 := (((s1.trans s2).trans s3).trans (Sm.new hu)).trans s4
    refine ⟨p, p2, _, _, rfl, rfl, h3p, h3, ?_, fun p3 hp3 => ?_⟩
    · rw [e2, flat_len, flat_len, hl, l2]
      exact Nat.le_of_lt (small1000 (by omega))
    · refine ⟨p3, cs ++ cs2, _, rfl, sA.trans (Sm.new hp3), sA.free hp3, by rw [upd_same, flat_append, e2], by rw [List.length_append, hl, l2]; omega, fun c hc2 => ?_⟩
      rcases List.mem_append.mp hc2 with z | z
      · exact hc c z
      · exact c2 c z
  rintro σ H1 ⟨p, cs, v3, rfl, s1, hp, h1p, hl, hc⟩
  obtain ⟨⟨x1, x2, x3⟩, cr, rfl⟩ : ∃ c r, cs = c :: r := by
    cases cs with
    | nil => cases hl
    | cons c r => exact ⟨c, r, rfl⟩
  obtain ⟨⟨xa, xb⟩, y1, y2⟩ := hc (x1, x2, x3) List.mem_cons_self
  dsimp only at xa xb
  -- the first digit
  refine ⟨fun σ' H' => ∃ cs' : List Ck, σ' = [some (V.ref a), some (.int at_), some (.ref p), v3, none, none] ∧ Sm H H' ∧ H' p = some (.lst (flat cs')) ∧ cs'.length = 18 ∧ ∀ c ∈ cs', CkOk c, ?_, ?_⟩
  · have put : ∀ (H2 : Hp) (y : Int), Sm H H2 → H2 p = some (.lst (flat ((x1, x2, x3) :: cr))) → 0 ≤ y → y < 4 →
        ∃ cs' : List Ck, [some (V.ref a), some (V.int at_), some (V.ref p), v3, none, none] = [some (V.ref a), some (.int at_), some (.ref p), v3, none, none] ∧ Sm H (upd H2 p (.lst ((flat ((x1, x2, x3) :: cr)).set 0 (.int y)))) ∧
          upd H2 p (.lst ((flat ((x1, x2, x3) :: cr)).set 0 (.int y))) p = some (.lst (flat cs')) ∧ cs'.length = 18 ∧ ∀ c ∈ cs', CkOk c := fun H2 y s2 h2 a0 a4 =>
      ⟨(y, x2, x3) :: cr, rfl, s2.put hp, upd_same, hl, fun c hc2 => by
        rcases List.mem_cons.mp hc2 with rfl | hc2
        · exact ⟨⟨a0, a4⟩, y1, y2⟩
        · exact hc c (List.mem_cons_of_mem _ hc2)⟩
    refine ⟨_, rfl, _, rfl, a, at_, ns, rfl, s1.seqL hS, h63, h0, fun z H2 s2 => ?_⟩
    have h2p := s2.lst h1p
    refine ⟨_, _, rfl, rfl, by show (0 : Int) < 7; decide, _, _, rfl, rfl, _, rfl, ?_⟩
    have m0 := Int.emod_nonneg x1 (show (2 : Int) ≠ 0 by decide)
    have m1 := Int.emod_lt_of_pos x1 (show (0 : Int) < 2 by decide)
    by_cases t1 : z % 7 > 0
    · rw [decide_eq_true t1]
      refine iteT ⟨_, rfl, p, _, _, _, rfl, rfl, SqL.of h2p, at_of (j := 0) (v := V.int x1) rfl rfl, _, _, rfl, rfl, by show (0 : Int) < 2; decide, _, _, rfl, rfl, _, rfl, p, _, 0, 0, rfl, rfl, h2p, ixN0 (by rw [flat_len, List.length_cons]; omega), ?_⟩
      exact put H2 (2 + x1 % 2) (s1.trans s2) h2p (by omega) (by omega)
    · rw [decide_eq_false t1]
      refine iteF ⟨_, rfl, p, _, _, _, rfl, rfl, SqL.of h2p, at_of (j := 0) (v := V.int x1) rfl rfl, _, rfl, p, _, 0, 0, rfl, rfl, h2p, ixN0 (by rw [flat_len, List.length_cons]; omega), ?_⟩
      exact put H2 x1 (s1.trans s2) h2p xa xb
  rintro σ H2 ⟨cs', rfl, s2, h2p, hl2, hc2⟩
  -- start
  refine ⟨_, rfl, _, rfl, _, _, rfl, rfl, a, at_ + 6, ns, rfl, s2.seqL hS, h63, by omega, fun z H3 s3 => ?_⟩
  refine ⟨_, _, rfl, rfl, by show (0 : Int) < 20; decide, ?_⟩
  have m0 := Int.emod_nonneg z (show (20 : Int) ≠ 0 by decide)
  have m1 := Int.emod_lt_of_pos z (show (0 : Int) < 20 by decide)
  obtain ⟨st, hst⟩ : ∃ st : Nat, z % 20 = (st : Int) := ⟨(z % 20).toNat, by omega⟩
  have st20 : st < 20 := by omega
  refine ⟨rfl, fun pn H4 s4 hpn h4n => ?_⟩
  have h4p := s4.lst (s3.lst h2p)
  have len20 : (nameL.map V.str).length = 20 := rfl
  -- the call
  refine ⟨_, rfl, _, rfl, _, rfl, _, rfl, pn, _, rfl, SqL.of h4n, fun A1 hA1 => ?_⟩
  refine ⟨_, rfl, _, rfl, _, rfl, pn, _, rfl, SqL.of ((Sm.new hA1).lst h4n), fun A2 hA2 => ?_⟩
  have nA12 : A1 ≠ A2 := fun e => by rw [← e, upd_same] at hA2; cases hA2
  refine ⟨A1, A2, _, _, rfl, rfl, by rw [upd_ne nA12, upd_same], upd_same, ?_, fun A3 hA3 => ⟨_, rfl, A3, _, rfl, SqL.of upd_same, fun A4 hA4 => ?_⟩⟩
  · have z1 := cutV_length (nameL.map V.str) (some (z % 20)) none
    have z2 := cutV_length (nameL.map V.str) none (some (z % 20))
    rw [len20] at z1 z2
    exact Nat.le_of_lt (small1000 (by omega))
  have e16 : cutV (cutV (nameL.map V.str) (some (z % 20)) none ++ cutV (nameL.map V.str) none (some (z % 20))) none (some 16) = (names16 st).map V.str := by
    rw [hst, cut_from (by rw [len20]; omega), cut_to (by rw [len20]; omega)]
    have l20 : ((nameL.map V.str).drop st ++ (nameL.map V.str).take st).length = 20 := by
      rw [List.length_append, List.length_drop, List.length_take, len20]
      omega
    have c := cut_to (xs := (nameL.map V.str).drop st ++ (nameL.map V.str).take st) (s := 16) (by rw [l20]; decide)
    rw [show ((16 : Nat) : Int) = 16 from rfl] at c
    rw [c]
    unfold names16
    rw [List.map_take, List.map_append, List.map_drop, List.map_take]
  obtain ⟨n16, nd16, ok16⟩ := names16_ok ⟨st, st20⟩
  dsimp only at n16 nd16 ok16
  refine ⟨_, rfl, _, _, rfl, rfl, by show (0 : Int) < 2; decide, _, _, rfl, rfl, ?_⟩
  have dp : (3 + z % 20 % 2 : Int) = ((3 + st % 2 : Nat) : Int) := by rw [hst]; omega
  have sm4 := (((Sm.new (o := HO.lst (cutV (nameL.map V.str) (some (z % 20)) none)) hA1).trans (Sm.new (o := HO.lst (cutV (nameL.map V.str) none (some (z % 20)))) hA2)).trans (Sm.new (o := HO.lst (cutV (nameL.map V.str) (some (z % 20)) none ++ cutV (nameL.map V.str) none (some (z % 20)))) hA3)).trans (Sm.new (o := HO.lst (cutV (cutV (nameL.map V.str) (some (z % 20)) none ++ cutV (nameL.map V.str) none (some (z % 20))) none (some 16))) hA4)
  have smH := ((s2.trans s3).trans s4).trans sm4
  refine ⟨p, A4, 3 + st % 2, cs', names16 st, ?_, by omega, by omega, sm4.lst h4p, by rw [upd_same, e16], (fun e => by rw [e] at hl2; cases hl2), (fun e => by rw [e] at n16; cases n16), hc2, by omega, by omega, fun z hz => nameOk_str (ok16 z hz), fun t v cs3 ns3 H5 s5 _ _ _ hnm pl wo lev => ?_⟩
  · show [V.ref p, V.ref A4, V.int (3 + z % 20 % 2)] = _
    rw [dp]
  have nA4 : H A4 = none := (((s2.trans s3).trans s4).trans (((Sm.new hA1).trans (Sm.new hA2)).trans (Sm.new hA3))).free hA4
  have ndt : t.names.Nodup := by
    rw [hnm] at nd16
    exact (List.nodup_append.mp nd16).1
  have okt : ∀ z ∈ t.names, nameOk z = true := fun z hz => ok16 z (by rw [hnm]; exact List.mem_append_left _ hz)
  have lt : t.names.length ≤ 16 := by
    rw [hnm, List.length_append] at n16
    omega
  refine q t v H5 (smH.of_sx s5 fun x hx => ?_) (pl.lk lk_dif) ⟨Tr.Ok.of wo ndt okt (by omega) (by omega), by omega, ndt, lt, okt⟩
  rcases List.mem_cons.mp hx with rfl | hx
  · exact hp
  · rw [List.mem_singleton.mp hx]
    exact nA4
end
end Hf
set_option Elab.async false
set_option maxRecDepth 100000
set_option maxHeartbeats 8000000
namespace Hf
open PySem L2
mutual
def Tr.all : Tr → List Tr
  | .leaf n st => [.leaf n st]
  | .node b n ps => .node b n ps :: ps.all
def Ps.all : Ps → List Tr
  | .nil => []
  | .cons _ t r => t.all ++ r.all
end
mutual
theorem Tr.all_nm : ∀ t : Tr, t.all.map Tr.nm = t.names
  | .leaf n st => rfl
  | .node b n ps => by
    show n :: ps.all.map Tr.nm = n :: ps.names
    rw [Ps.all_nm ps]
theorem Ps.all_nm : ∀ p : Ps, p.all.map Tr.nm = p.names
  | .nil => rfl
  | .cons w t r => by
    show (t.all ++ r.all).map Tr.nm = t.names ++ r.names
    rw [List.map_append, Tr.all_nm t, Ps.all_nm r]
end
theorem Ps.all_toL : ∀ p : Ps, p.all = p.toL.flatMap (fun x => x.2.all)
  | .nil => rfl
  | .cons w t r => by
    show t.all ++ r.all = ((w, t) :: r.toL).flatMap _
    rw [List.flatMap_cons, Ps.all_toL r]
theorem Tr.all_len (t : Tr) : t.all.length = t.names.length := by rw [← t.all_nm, List.length_map]
/-- the values of several plans, in turn -/
structure AllAt (H : Hp) (l : List Tr) (xs : List V) : Prop where
  len : xs.length = l.length
  at_ : ∀ (i : Nat) (s : Tr), l[i]? = some s → ∃ v, xs[i]? = some v ∧ PlAt H s v
theorem AllAt.lk {H H' : Hp} {l : List Tr} {xs : List V} (h : AllAt H l xs) (e : Lk H H') : AllAt H' l xs := ⟨h.len, fun i s z => let ⟨v, a, b⟩ := h.at_ i s z; ⟨v, a, b.lk e⟩⟩
theorem AllAt.one {H : Hp} {t : Tr} {v : V} (h : PlAt H t v) : AllAt H [t] [v] := ⟨rfl, fun i s e => by
  cases i with
  | zero =>
    simp at e
    subst e
    exact ⟨v, rfl, h⟩
  | succ i => simp at e⟩
theorem AllAt.append {H : Hp} {l m : List Tr} {xs ys : List V} (a : AllAt H l xs) (b : AllAt H m ys) : AllAt H (l ++ m) (xs ++ ys) := by
  refine ⟨by rw [List.length_append, List.length_append, a.len, b.len], fun i s e => ?_⟩
  by_cases hi : i < l.length
  · rw [List.getElem?_append_left hi] at e
    obtain ⟨v, h1, h2⟩ := a.at_ i s e
    exact ⟨v, by rw [List.getElem?_append_left (by rw [a.len]; exact hi)]; exact h1, h2⟩
  · rw [List.getElem?_append_right (by omega)] at e
    obtain ⟨v, h1, h2⟩ := b.at_ _ s e
    exact ⟨v, by rw [List.getElem?_append_right (by rw [a.len]; omega), a.len]; exact h1, h2⟩
theorem jx0 {a b c : V} : atI [a, b, c] 0 = some a := rfl
theorem jx1 {a b c : V} : atI [a, b, c] 1 = some b := rfl
theorem jx2 {a b c : V} : atI [a, b, c] 2 = some c := rfl
theorem kind_leaf (b : Bool) : ¬ (V.str (kindS b) = V.str "leaf") := by cases b <;> decide +kernel
def spAll (n : Nat) : Sp := fun vs H Q _ => ∃ (v : V) (t : Tr), vs = [v] ∧ PlAt H t v ∧ t.lev ≤ n ∧ t.names.length ≤ 900 ∧ ∀ (p : Addr) (xs : List V) (H' : Hp), Sm H H' → H p = none → H' p = some (.lst xs) → AllAt H' t.all xs → Q (.ref p) H'
def spMadeOf (c : Cs) (T1 T2 : Addr) (n : Nat) : Sp := fun vs H Q _ => ∃ (v : V) (t : Tr), vs = [v] ∧ PlAt H t v ∧ t.Ok ∧ t.lev ≤ n ∧ Tab H T1 ∧ Tab H T2 ∧ ∀ (wv : V) (H' : Hp), Sm H H' → WkAt c H' t wv → Q wv H'
section
variable {P : Program} {w : World} {K : PySem.W.Frag} {mg : Str → Option Value} {base : Heap} {T1 T2 : Addr} {f : Nat → Addr} {g : Nat → FuncData} {c : Cs} {i : Nat → Addr} {j : Nat → FuncData}
theorem ok_all {fa : Addr} {fd : FuncData} (D : Gf K mg "_law_all" sLawAll ["_law_plain"] fa fd) : ∀ n : Nat, FnOk P w K mg base CX0 n fa fd ["_law_plain"] (spAll n)
  | 0 => none_lev fun vs H Q E ⟨v, t, _, _, h, _⟩ => by have := t.lev_pos; omega
  | n + 1 => by
    have G : FnOk P w K mg base CX0 n fa fd ["_law_plain"] (spAll n) := ok_all D n
    refine D.F.ok scLawAll (fun vs H Q E h => ?_) (fun cdv A outer s H vs Q E hr h => ?_)
    · obtain ⟨v, t, rfl, _⟩ := h
      rfl
    obtain ⟨v, t, rfl, hv, hl, hn, q⟩ := h
    refine ⟨_, (pss_cons (ps_set (i := 1) scLawAll.nd rfl (.inl rfl) (pe_lst (pa_cons (pv 0) pa_nil))) (pss_cons (ps_if (pt_cmpR op_ne (pe_ix ix_tup (pv 0) pe_int (fun _ _ => rfl)) pe_str (nomark _)) (pss_one (ps_for PassesOwn.never rfl (pi_list (pe_ix ix_tup (pv 0) pe_int (fun _ _ => rfl))) (pg_tup rfl (pgs_cons (pg_name (i := 2) scLawAll.nd rfl (.inl rfl)) (pgs_cons (pg_name (i := 3) scLawAll.nd rfl (.inl rfl)) pgs_nil))) (pss_one (ps_set (i := 1) scLawAll.nd rfl (.inl rfl) (pe_op op_cat (pv 1) (pe_call G hr (by rfl) D.m D.F.kp D.b .nil pass0 (pa_cons (pv 3) pa_nil))))))) pss_nil) (pss_one (ps_ret (pv 1))))), ?_⟩
    refine ⟨_, rfl, by show 1 ≤ sizeLine; decide, fun p0 hp0 => ?_⟩
    have s0 : Sm H (upd H p0 (.lst [v])) := Sm.new hp0
    cases t with
    | leaf nm st =>
      obtain ⟨a, rfl, h1⟩ := id hv
      refine ⟨_, rfl, a, _, _, _, rfl, rfl, SqT.of (s0.tup h1), jx0, rfl, _, rfl, ?_⟩
      rw [decide_eq_true (p := V.str "leaf" = V.str "leaf") rfl]
      exact iteF ⟨_, rfl, q p0 [.ref a] _ s0 hp0 upd_same (AllAt.one (hv.lk s0.lk))⟩
    | node b nm ps =>
      obtain ⟨a, l, xs, rfl, h1, h2, h3⟩ := id hv
      refine ⟨_, rfl, a, _, _, _, rfl, rfl, SqT.of (s0.tup h1), jx0, rfl, _, rfl, ?_⟩
      rw [decide_eq_false (kind_leaf b)]
      refine iteT ⟨_, rfl, a, _, _, _, rfl, rfl, SqT.of (s0.tup h1), jx2, l, rfl, ⟨_, SqL.of (s0.lst h2)⟩, for_list (K := K) (a := l) (xs := xs)
        (fun i σ H1 => ∃ (p : Addr) (acc : List V) (x2 x3 : Option V), σ = [some (V.ref a), some (.ref p), x2, x3] ∧ Sm H H1 ∧ H p = none ∧ H1 p = some (.lst acc) ∧ AllAt H1 (.node b nm ps :: (ps.toL.take i).flatMap (fun x => x.2.all)) acc)
        ⟨p0, [.ref a], none, none, rfl, s0, hp0, upd_same, AllAt.one (hv.lk s0.lk)⟩ (fun i σ H1 _ hh => ?_) ?_ ?_⟩
      · obtain ⟨_, _, _, _, _, sm, _⟩ := hh
        exact SqL.of (sm.lst h2)
      · rintro i x σ H1 hx ⟨p, acc, x2, x3, rfl, sm, hp, h1p, al⟩
        obtain ⟨wt, t', q', v', g1, rfl, g2, g3⟩ := h3.get hx
        have mem := List.mem_of_getElem? g1
        have lv : t'.lev ≤ n := by
          have z1 := Ps.lev_mem mem
          have z2 : ps.lev + 1 ≤ n + 1 := hl
          omega
        have nm1 : t'.names.length ≤ ps.names.length := names_mem mem
        have nm2 : (Tr.node b nm ps).names.length = ps.names.length + 1 := rfl
        refine ⟨q', _, rfl, SqT.of (sm.tup g2), rfl, _, _, rfl, _, _, rfl, rfl, ?_⟩
        refine ⟨_, rfl, _, rfl, v', t', rfl, g3.lk sm.lk, lv, by omega, fun r ys H2 s2 nr hr2 al2 => ?_⟩
        refine ⟨p, r, _, _, rfl, rfl, s2.lst h1p, hr2, ?_, fun u hu => ?_⟩
        · have z1 := al.len
          have z2 := al2.len
          rw [Tr.all_len] at z2
          have z3 : ((ps.toL.take i).flatMap (fun x => x.2.all)).length ≤ ps.names.length := by
            have e1 : ((ps.toL.take i).flatMap (fun x => x.2.all)).length = ((ps.toL.take i).flatMap (fun x => x.2.names)).length := by
              rw [List.length_flatMap, List.length_flatMap]
              simp only [Tr.all_len]
            rw [e1]
            exact names_take i
          rw [List.length_cons] at z1
          exact Nat.le_trans (show acc.length + ys.length ≤ 3000 by omega) (by decide)
        · have s3 := s2.trans (Sm.new (o := HO.lst (acc ++ ys)) hu)
          refine ⟨u, acc ++ ys, some (.int wt), some v', rfl, sm.trans s3, (sm.trans s2).free hu, upd_same, ?_⟩
          rw [take_snoc g1, List.flatMap_append, List.flatMap_cons, List.flatMap_nil, List.append_nil, ← List.cons_append]
          exact (al.lk s3.lk).append (al2.lk (Sm.new hu).lk)
      · rintro σ H1 ⟨p, acc, x2, x3, rfl, sm, hp, h1p, al⟩
        refine ⟨_, rfl, q p acc H1 sm hp h1p ?_⟩
        rw [h3.length, List.take_length, ← Ps.all_toL] at al
        exact al
theorem ok_madeOf {fa : Addr} {fd : FuncData} (F : Gf K mg "_law_made_of" sLawMadeOf ["_law_plain"] fa fd) (M : Mi K c i j) (D : Df K mg base T1 T2 f g) (b : Bi mg) (co : Co mg) (k : Kl K mg c) : ∀ n : Nat, FnOk P w K mg base CX0 (n + 9) fa fd ["_law_plain"] (spMadeOf c T1 T2 n)
  | 0 => (none_lev fun vs H Q E ⟨v, t, _, _, _, h, _⟩ => by have := t.lev_pos; omega).mono (Nat.zero_le _)
  | n + 1 => by
    have G : FnOk P w K mg base CX0 (n + 9) fa fd ["_law_plain"] (spMadeOf c T1 T2 n) := ok_madeOf F M D b co k n
    have GL : FnOk P w K mg base CX0 4 (i 0) (j 0) ["self", "name", "steps"] (spLeafInit c T1) := ok_leafInit M.fL D.nm b co k
    have GR : FnOk P w K mg base CX0 8 (i 1) (j 1) ["self", "name", "parts"] (spNodeInit c true T1 T2) := ok_rowInit M D b co k
    have GB : FnOk P w K mg base CX0 8 (i 2) (j 2) ["self", "name", "parts"] (spNodeInit c false T1 T2) := ok_bundleInit M D b co k
    obtain ⟨its, KB⟩ := leaf_bk M.fL
    have D : Df K mg base T1 T2 f g := D
    refine F.F.ok scLawMadeOf (fun vs H Q E h => ?_) (fun cdv A outer s H vs Q E hr h => ?_)
    · obtain ⟨v, t, rfl, _⟩ := h
      rfl
    obtain ⟨v, t, rfl, hv, ho, hl, t1, t2, q⟩ := h
    refine ⟨_, (pss_cons (ps_if (pt_cmpR op_eq (pe_ix ix_tup (pv 0) pe_int (fun _ _ => rfl)) pe_str (nomark _)) (pss_one (ps_ret (pe_makeN (n := 1) M.mkL GL (hr.mono (by omega)) (by rfl) k.mL KB pass0 (pa_cons (pe_ix ix_tup (pv 0) pe_int (fun _ _ => rfl)) pa_nil) (pk_cons (pe_ix ix_tup (pv 0) pe_int (fun _ _ => rfl)) pk_nil)))) pss_nil) (pss_cons (ps_setLc (i := 2) (own := [("_law_weight", 3), ("_law_work_here", 1)]) (g := (gTup K 2 (gCons (gName 3) (gCons (gName 1) gNil)))) rfl scLawMadeOf.nd rfl rfl (sw_true rfl rfl rfl (by decide +kernel)) (pi_list (pe_ix ix_tup (pv 0) pe_int (fun _ _ => rfl))) (blkOk_by (own := [("_law_weight", 3), ("_law_work_here", 1)]) (N := ["_law_plain", "_law_work_here", "_law_parts", "_law_weight"]) (sc := defScope sLawMadeOf) (by decide +kernel)) (fun _ _ _ _ _ => (pg_tup rfl (pgs_cons (pg_name (i := 3) scLawMadeOf.nd rfl (.inl rfl)) (pgs_cons (pg_name (i := 1) scLawMadeOf.nd rfl (.inl rfl)) pgs_nil)))) (fun _ _ _ _ _ => pts_nil) (fun _ _ _ _ _ => (pe_tup (pa_cons (pv 3) (pa_cons (pe_call G (hr.mono (by omega)) (by rfl) F.m F.F.kp F.b .nil pass0 (pa_cons (pv 1) pa_nil)) pa_nil))))) (C8.pss_cut (ps_set (i := 1) scLawMadeOf.nd rfl (.inl rfl) (pe_ifExp (pt_cmpR op_eq (pe_ix ix_tup (pv 0) pe_int (fun _ _ => rfl)) pe_str (nomark _)) (pe_make M.mkR GR (hr.mono (by omega)) (by rfl) k.mR M.bR .nil pass0 (pa_cons (pe_ix ix_tup (pv 0) pe_int (fun _ _ => rfl)) (pa_cons (pv 2) pa_nil))) (pe_make M.mkB GB (hr.mono (by omega)) (by rfl) k.mB M.bB .nil pass0 (pa_cons (pe_ix ix_tup (pv 0) pe_int (fun _ _ => rfl)) (pa_cons (pv 2) pa_nil))))) (pss_cons (ps_expr (pe_bm0 PySem.F.plainAttrs_list PySem.F.slot_list_reverse PySem.F.type_list_reverse mt_reverse (pv 2))) (pss_cons (ps_expr (pe_bm PySem.F.plainAttrs_list PySem.F.slot_list_append PySem.F.type_list_append mt_append (pv 2) (pa_cons (pe_tup (pa_cons pe_int (pa_cons (pe_make M.mkL GL (hr.mono (by omega)) (by rfl) k.mL (leaf_b2 M.fL) (.cons (show RelV .non Value.none from rfl) .nil) pass0 (pa_cons pe_str pa_nil)) pa_nil))) pa_nil))) (pss_one (ps_ret (pv 1)))))))), ?_⟩
    cases t with
    | leaf nm st =>
      obtain ⟨a, rfl, h1⟩ := id hv
      refine ⟨_, rfl, a, _, _, _, rfl, rfl, SqT.of h1, jx0, rfl, _, rfl, ?_⟩
      rw [decide_eq_true (p := V.str "leaf" = V.str "leaf") rfl]
      refine iteT ⟨_, rfl, a, _, _, _, rfl, rfl, SqT.of h1, jx1, _, rfl, a, _, _, _, rfl, rfl, SqT.of h1, jx2, rfl, rfl, fun x dx hx hd _ => ⟨x, dx, nm, st, rfl, upd_same, ho.1, ho.2, (made0 hx hd).tabG t1, fun H2 tv sb hx2 ht => ⟨rfl, ?_⟩⟩⟩
      obtain ⟨s2, w2⟩ := new_leaf (c := c) hx hd sb hx2 ht
      exact q _ H2 s2 w2
    | node bb nm ps =>
      obtain ⟨a, l, xs, rfl, h1, h2, h3⟩ := id hv
      refine ⟨_, rfl, a, _, _, _, rfl, rfl, SqT.of h1, jx0, rfl, _, rfl, ?_⟩
      rw [decide_eq_false (kind_leaf bb)]
      refine iteF ⟨_, rfl, a, _, _, _, rfl, rfl, SqT.of h1, jx2, l, rfl, ⟨_, SqL.of h2⟩, fun L hL => lc_list (K := K) (a := l) (xs := xs) (fun i H3 => Sm H H3 ∧ ∃ acc, H3 L = some (.lst acc) ∧ PwUp c H3 ps.toL i acc) ⟨Sm.new hL, [], upd_same, rfl, fun j _ _ z => absurd z (Nat.not_lt_zero j)⟩ (fun i H3 _ z => SqL.of (z.1.lst h2)) ?_ ?_⟩
      · rintro i x H3 hx ⟨s3, acc, ha, up⟩
        obtain ⟨w', t', q', v', g1, rfl, g2, g3⟩ := h3.get hx
        have mem := List.mem_of_getElem? g1
        have pok : t'.Ok := ho.part (w' := w') mem
        have plev : t'.lev ≤ n := lev_part (t := .node bb nm ps) hl mem
        refine ⟨q', _, rfl, SqT.of (s3.tup g2), rfl, _, _, rfl, _, _, rfl, rfl, rfl, ?_⟩
        unfold tYes
        refine iteT ?_
        refine ⟨_, rfl, _, rfl, v', t', rfl, g3.lk s3.lk, pok, plev, s3.tabG t1, s3.tabG t2, fun wv H4 s4 hw4 => ⟨by show 2 ≤ sizeLine; decide, fun p hp => ?_⟩⟩
        have ha4 := s4.lst ha
        have nLp : L ≠ p := ne_of_none ha4 hp
        have s5 : Sm H3 (upd H4 p (.tup [.int w', wv])) := s4.trans (Sm.new hp)
        refine ⟨acc, by rw [upd_ne nLp]; exact ha4, small1000 (by have z1 := up.1; have z2 := get_lt g1; have z3 : ps.toL.length ≤ 6 := ho.2.2.1; omega), (s3.trans s5).put hL, _, upd_same, ?_⟩
        have ln : Ln (upd H4 p (.tup [.int w', wv])) (upd (upd H4 p (.tup [.int w', wv])) L (.lst (acc ++ [.ref p]))) := Ln.put (by rw [upd_ne nLp]; exact ha4)
        exact ((up.ln s5.ln).ln ln).snoc g1 (ln.tup _ _ upd_same) ((hw4.ln (Sm.new hp).ln).ln ln)
      rintro H3 ⟨s3, acc, ha, up⟩
      rw [h3.length] at up
      have pw := up.all
      have o2 : (Tr.node bb nm (Ps.ofL ps.toL)).Ok := by rw [Ps.ofL_toL]; exact ho
      have acc6 : acc.length ≤ 6 := by have z1 := up.1; have z3 : ps.toL.length ≤ 6 := ho.2.2.1; omega
      refine ⟨fun σ' H' => ∃ (wv : V) (x3 : Option V), σ' = [some (V.ref a), some wv, some (.ref L), x3] ∧ Sm H H' ∧ WkAt c H' (.node bb nm ps) wv ∧ H' L = some (.lst acc), ?_, ?_⟩
      · refine ⟨_, rfl, a, _, _, _, rfl, rfl, SqT.of (s3.tup h1), jx0, rfl, _, rfl, ?_⟩
        cases bb with
        | true =>
          rw [decide_eq_true (p := V.str (kindS true) = V.str "row") rfl]
          refine iteT ⟨_, rfl, a, _, _, _, rfl, rfl, SqT.of (s3.tup h1), jx1, _, rfl, fun x dx hx hd _ => ?_⟩
          have s0 := made0 (o := .ins (c.nd true) dx []) hx hd
          refine ⟨x, dx, nm, L, acc, ps.toL, rfl, upd_same, s0.lst ha, pw.mono s0, o2, s0.tabG (s3.tabG t1), s0.tabG (s3.tabG t2), fun H2 tv sb hx2 ht => ⟨rfl, ?_⟩⟩
          rw [Ps.ofL_toL] at ht
          obtain ⟨s2, w2⟩ := new_node (c := c) (b := true) hx hd sb hx2 ht
          exact ⟨.ref x, _, rfl, s3.trans s2, w2, s2.lst ha⟩
        | false =>
          rw [decide_eq_false (p := V.str (kindS false) = V.str "row") bundle_row]
          refine iteF ⟨_, rfl, a, _, _, _, rfl, rfl, SqT.of (s3.tup h1), jx1, _, rfl, fun x dx hx hd _ => ?_⟩
          have s0 := made0 (o := .ins (c.nd false) dx []) hx hd
          refine ⟨x, dx, nm, L, acc, ps.toL, rfl, upd_same, s0.lst ha, pw.mono s0, o2, s0.tabG (s3.tabG t1), s0.tabG (s3.tabG t2), fun H2 tv sb hx2 ht => ⟨rfl, ?_⟩⟩
          rw [Ps.ofL_toL] at ht
          obtain ⟨s2, w2⟩ := new_node (c := c) (b := false) hx hd sb hx2 ht
          exact ⟨.ref x, _, rfl, s3.trans s2, w2, s2.lst ha⟩
      rintro σ' H4 ⟨wv, x3, rfl, s4, w4, hL4⟩
      refine ⟨_, rfl, .inl ⟨rfl, _, SqL.of hL4⟩, L, acc, rfl, rfl, hL4, ?_⟩
      have s5 : Sm H (upd H4 L (.lst acc.reverse)) := s4.put hL
      have w5 : WkAt c (upd H4 L (.lst acc.reverse)) (.node bb nm ps) wv := w4.ln (Ln.put hL4)
      refine ⟨_, rfl, .inl ⟨rfl, _, SqL.of upd_same⟩, fun x dx hx hd _ => ⟨x, dx, "zz", none, rfl, upd_same, by decide +kernel, rfl, (made0 hx hd).tabG (s5.tabG t1), fun H6 tv sb hx2 ht => ⟨rfl, by show 2 ≤ sizeLine; decide, fun p hp => ?_⟩⟩⟩
      obtain ⟨s6, _⟩ := new_leaf (c := c) hx hd sb hx2 ht
      have hL6 : H6 L = some (.lst acc.reverse) := s6.lst upd_same
      have s7 : Sm (upd H4 L (.lst acc.reverse)) (upd H6 p (.tup [.int 1, .ref x])) := s6.trans (Sm.new hp)
      have hL7 : upd H6 p (.tup [.int 1, .ref x]) L = some (.lst acc.reverse) := (Sm.new hp).lst hL6
      refine ⟨L, acc.reverse, _, rfl, rfl, hL7, small1000 (by rw [List.length_reverse]; omega), ?_⟩
      refine ⟨_, rfl, q wv _ ((s5.trans s7).put hL) ((w5.mono s7).ln (Ln.put hL7))⟩
end
end Hf
set_option Elab.async false
set_option maxRecDepth 100000
set_option maxHeartbeats 8000000
namespace Hf
open PySem L2
theorem strsDp {K : PySem.W.Frag} {H : Hp} : ∀ ns : List Str, DpAll K H (ns.map V.str) (ns.map PyData.str)
  | [] => .nil
  | n :: r => .cons (.str n) (strsDp r)
theorem strs_lay : ∀ {ns : List Str}, (∀ z ∈ ns, PyData.strOk z = true) → PyData.canLayAll0 (ns.map PyData.str) = true
  | [], _ => rfl
  | n :: r, h => by
    show (PyData.strOk n && PyData.canLayAll0 (r.map PyData.str)) = true
    rw [h n List.mem_cons_self, strs_lay fun z hz => h z (List.mem_cons_of_mem _ hz)]
    rfl
theorem strs_dep : ∀ ns : List Str, PyData.depthAll (ns.map PyData.str) = 0
  | [] => rfl
  | _ :: r => by show max 0 (PyData.depthAll (r.map PyData.str)) = 0; rw [strs_dep r]; rfl
theorem strs_shaped {ns : List Str} (h : ∀ z ∈ ns, PyData.strOk z = true) : SeqAt.shaped (.list (ns.map PyData.str)) = true := by
  unfold SeqAt.shaped
  rw [show (PyData.list (ns.map PyData.str)).canLay0 = PyData.canLayAll0 (ns.map PyData.str) from rfl, strs_lay h, show (PyData.list (ns.map PyData.str)).depth = PyData.depthAll (ns.map PyData.str) + 1 from rfl, strs_dep]
  rfl
theorem shaped_lay {d : PyData} (h : SeqAt.shaped d = true) : d.canLay0 = true := by
  unfold SeqAt.shaped at h
  rw [Bool.and_eq_true] at h
  exact h.1
theorem kx0 {a b : V} : atI [a, b] 0 = some a := rfl
theorem kx1 {a b : V} : atI [a, b] 1 = some b := rfl
theorem bools_shaped : ∀ x y z : Bool, SeqAt.shaped (.list [.bool x, .bool y, .bool z]) = true := by decide +kernel
/-- what a law asks of the classes besides -/
structure Kx (K : PySem.W.Frag) (mg : Str → Option Value) (c : Cs) : Prop where
  mW : mg "Work" = some (.ref c.W)
  lw : PySem.W.kitOne K (.ref c.L) (.ref c.W) = some true
  rw : PySem.W.kitOne K (.ref c.R) (.ref c.W) = some true
  bw : PySem.W.kitOne K (.ref c.B) (.ref c.W) = some true
  ll : PySem.W.kitOne K (.ref c.L) (.ref c.L) = some true
  lr : PySem.W.kitOne K (.ref c.L) (.ref c.R) = some false
  lb : PySem.W.kitOne K (.ref c.L) (.ref c.B) = some false
  rl : PySem.W.kitOne K (.ref c.R) (.ref c.L) = some false
  rr : PySem.W.kitOne K (.ref c.R) (.ref c.R) = some true
  rb : PySem.W.kitOne K (.ref c.R) (.ref c.B) = some false
  bl : PySem.W.kitOne K (.ref c.B) (.ref c.L) = some false
  br : PySem.W.kitOne K (.ref c.B) (.ref c.R) = some false
  bb : PySem.W.kitOne K (.ref c.B) (.ref c.B) = some true
section
variable (P : Program) (w : World) (K : PySem.W.Frag) (mg : Str → Option Value) (base : Heap) (c : Cs) (T1 T2 : Addr)
/-- a class's method m -/
def Mth (C : Addr) (m : Str) (n : Nat) (sp : Sp) : Prop := ∃ (f : Addr) (fd : FuncData), Meth K C m f ∧ FnOk P w K mg base CX0 n f fd ["self"] sp ∧ Binds K fd ["self"] []
structure MeL (C : Addr) : Prop where
  name : Mth P w K mg base C "name" 1 (spMName c)
  names : Mth P w K mg base C "names" 6 (spMNames c)
  steps : Mth P w K mg base C "steps" 1 (spMSteps c)
  parts : Mth P w K mg base C "parts" 1 spMParts0
structure MeN (C : Addr) : Prop where
  name : Mth P w K mg base C "name" 1 (spMName c)
  names : Mth P w K mg base C "names" 6 (spMNames c)
  steps : Mth P w K mg base C "steps" 1 spMStepsN
  parts : Mth P w K mg base C "parts" 19 (spMParts c T1 T2)
end
def spRight (c : Cs) (T1 T2 : Addr) (n : Nat) : Sp := fun vs H Q _ => ∃ (wv v : V) (t : Tr), vs = [wv, v] ∧ WkAt c H t wv ∧ PlAt H t v ∧ t.Ok ∧ t.lev ≤ n ∧ t.lev ≤ 5 ∧ t.names.length ≤ 20 ∧ (∀ z ∈ t.names, PyData.strOk z = true) ∧ Tab H T1 ∧ Tab H T2 ∧ ∀ H', Sm H H' → Q (.bl true) H'
section
variable {P : Program} {w : World} {K : PySem.W.Frag} {mg : Str → Option Value} {base : Heap} {T1 T2 : Addr} {c : Cs}
theorem ok_right {fr fa : Addr} {fdr fda : FuncData} (DR : Gf K mg "_law_right" sLawRight ["_law_work_here", "_law_plain"] fr fdr) (DA : Gf K mg "_law_all" sLawAll ["_law_plain"] fa fda) (b : Bi mg) (k : Kl K mg c) (x : Kx K mg c)
    (ML : MeL P w K mg base c c.L) (MR : MeN P w K mg base c T1 T2 c.R) (MB : MeN P w K mg base c T1 T2 c.B) : ∀ n : Nat, FnOk P w K mg base CX0 (n + 20) fr fdr ["_law_work_here", "_law_plain"] (spRight c T1 T2 n)
  | 0 => (none_lev fun vs H Q E ⟨wv, v, t, _, _, _, _, h, _⟩ => by have := t.lev_pos; omega).mono (Nat.zero_le _)
  | n + 1 => by
    have GR : FnOk P w K mg base CX0 (n + 20) fr fdr ["_law_work_here", "_law_plain"] (spRight c T1 T2 n) := ok_right DR DA b k x ML MR MB n
    have GA : FnOk P w K mg base CX0 5 fa fda ["_law_plain"] (spAll 5) := ok_all DA 5
    refine DR.F.ok scLawRight (fun vs H Q E h => ?_) (fun cdv A outer s H vs Q E hr h => ?_)
    · obtain ⟨wv, v, t, rfl, _⟩ := h
      rfl
    obtain ⟨wv, v, t, rfl, hw, hv, ho, hl, l5, few, nms, t1, t2, q⟩ := h
    cases t with
    | leaf nm st =>
      obtain ⟨fN, gN, mN, GN, bN⟩ := ML.name
      obtain ⟨fS, gS, mS, GS, bS⟩ := ML.names
      obtain ⟨fT, gT, mT, GT, bT⟩ := ML.steps
      obtain ⟨fP, gP, mP, GP, bP⟩ := ML.parts
      have IC := k.iL
      have kW := x.lw
      have kL := x.ll
      have kR := x.lr
      have kB := x.lb
      obtain ⟨wa, dx, tv, rfl, h1, h2⟩ := id hw
      obtain ⟨a, rfl, g1⟩ := id hv
      have e1 : decide (V.str "leaf" = V.str "leaf") = true := decide_eq_true rfl
      have e2 : decide (V.str "leaf" = V.str "row") = false := by decide +kernel
      have e3 : decide (V.str "leaf" = V.str "bundle") = false := by decide +kernel
      have eSORT : PyData.eqv (.list [.bool true, .bool false, .bool false]) (.list [.bool (decide (V.str "leaf" = V.str "leaf")), .bool (decide (V.str "leaf" = V.str "row")), .bool (decide (V.str "leaf" = V.str "bundle"))]) = true := by rw [e1, e2, e3]; rfl
      refine ⟨_, (pss_cons (ps_if (PW.pt (pw_or (pt_not (pt_val (pe_callB call_isi (by rfl) b.isinstance b_isi (pa_cons (pv 0) (pa_cons (pe_glob (v := .ref c.W) (by rfl) x.mW rfl) pa_nil))))) (pw_or (pt_cmpR op_ne (pe_meth0 (pv 0) IC.cl mN GN (hr.mono (by omega)) bN .nil pass0) (pe_ix ix_tup (pv 1) pe_int (fun _ _ => rfl)) (nomark _)) (pw_or1 (pt_cmpR (op_neD (hu64 hr)) (pe_meth0 (pv 0) IC.cl mS GS (hr.mono (by omega)) bS .nil pass0) (pe_lc (own := [("_law_one", 6)]) (g := gName 6) rfl scLawRight.nd (pi_list (pe_call GA (hr.mono (by omega)) (by rfl) DA.m DA.F.kp DA.b .nil pass0 (pa_cons (pv 1) pa_nil))) (blkOk_by (own := [("_law_one", 6)]) (N := ["_law_work_here", "_law_plain", "_law_sorts", "_law_parts", "_law_part", "_law_other", "_law_one"]) (sc := defScope sLawRight) (by decide +kernel)) (fun _ _ _ _ _ => (pg_name (i := 6) scLawRight.nd rfl (.inl rfl))) (fun _ _ _ _ _ => pts_nil) (fun _ _ _ _ _ => (pe_ix (r := rIxT K) ix_tup (pv 6) pe_int (fun _ _ => rfl)))) (nomark _)))))) pss_never pss_nil) (pss_cons (ps_set (i := 2) scLawRight.nd rfl (.inl rfl) (pe_lst (pa_cons (pe_callB call_isi (by rfl) b.isinstance b_isi (pa_cons (pv 0) (pa_cons (pe_glob (v := .ref c.L) (by rfl) k.mL rfl) pa_nil))) (pa_cons (pe_callB call_isi (by rfl) b.isinstance b_isi (pa_cons (pv 0) (pa_cons (pe_glob (v := .ref c.R) (by rfl) k.mR rfl) pa_nil))) (pa_cons (pe_callB call_isi (by rfl) b.isinstance b_isi (pa_cons (pv 0) (pa_cons (pe_glob (v := .ref c.B) (by rfl) k.mB rfl) pa_nil))) pa_nil))))) (pss_cons (ps_if (pt_cmpR (op_neD (hu64 hr)) (pv 2) (pe_lst (pa_cons (pe_cmpR op_eq (pe_ix ix_tup (pv 1) pe_int (fun _ _ => rfl)) pe_str (nomark _)) (pa_cons (pe_cmpR op_eq (pe_ix ix_tup (pv 1) pe_int (fun _ _ => rfl)) pe_str (nomark _)) (pa_cons (pe_cmpR op_eq (pe_ix ix_tup (pv 1) pe_int (fun _ _ => rfl)) pe_str (nomark _)) pa_nil)))) (nomark _)) pss_never pss_nil) (pss_cons (ps_if (pt_cmpR op_eq (pe_ix ix_tup (pv 1) pe_int (fun _ _ => rfl)) pe_str (nomark _)) (pss_one (ps_ret (pe_and (pe_cmpR (op_eqD (hu64 hr)) (pe_meth0 (pv 0) IC.cl mP GP (hr.mono (by omega)) bP .nil pass0) (pe_lst pa_nil) (nomark _)) (pe_one (pe_cmpR op_eq (pe_meth0 (pv 0) IC.cl mT GT (hr.mono (by omega)) bT .nil pass0) (pe_ix ix_tup (pv 1) pe_int (fun _ _ => rfl)) (nomark _)))))) pss_nil) pss_never)))), ?_⟩
      -- isinstance(work, Work), name, names
      refine ⟨_, rfl, _, _, _, _, true, rfl, .own _, .base (.ins h1 IC.cl IC.ha k.ik.hn k.ik.htk IC.hm), kW, true, rfl, iteF ?_⟩
      refine ⟨_, rfl, wa, dx, _, rfl, h1, rfl, .ref wa, (Tr.leaf nm st), rfl, hw, _, rfl, a, _, _, _, rfl, rfl, SqT.of g1, jx1, rfl, _, rfl, ?_⟩
      rw [decide_eq_true (p := V.str (Tr.leaf nm st).nm = V.str nm) rfl]
      refine iteF ⟨_, rfl, wa, dx, _, rfl, h1, rfl, .ref wa, (Tr.leaf nm st), rfl, hw, l5, by omega, fun p1 H1 s1 np1 hp1 => ?_⟩
      refine ⟨_, rfl, .ref a, (Tr.leaf nm st), rfl, hv.lk s1.lk, l5, by omega, fun p2 ys H2 s2 np2 hp2 al => ?_⟩
      refine ⟨p2, rfl, ⟨_, SqL.of hp2⟩, fun E1 hE1 => lc_list (K := K) (a := p2) (xs := ys) (fun i H3 => Sm H2 H3 ∧ H3 E1 = some (.lst (((Tr.leaf nm st).names.take i).map V.str))) ⟨Sm.new hE1, upd_same⟩ (fun i H3 _ z => SqL.of (z.1.lst hp2)) ?_ ?_⟩
      · rintro i y H3 hy ⟨s3, hE3⟩
        obtain ⟨sub, hsub⟩ : ∃ sub, (Tr.leaf nm st).all[i]? = some sub := ⟨(Tr.leaf nm st).all[i]'(by rw [← al.len]; exact get_lt hy), List.getElem?_eq_getElem _⟩
        obtain ⟨v', hv1, hv2⟩ := al.at_ i sub hsub
        rw [hy] at hv1
        cases hv1
        obtain ⟨a', z', rfl, ha'⟩ := hv2.shape
        have hnm : (Tr.leaf nm st).names[i]? = some sub.nm := by rw [← Tr.all_nm, List.getElem?_map, hsub]; rfl
        refine ⟨rfl, ?_⟩
        unfold tYes
        refine iteT ⟨_, rfl, a', _, _, _, rfl, rfl, SqT.of (s3.tup ha'), jx1, _, hE3, small1000 (by rw [List.length_map, List.length_take]; omega), s3.put hE1, ?_⟩
        rw [upd_same, take_snoc hnm, List.map_append]
        rfl
      rintro H3 ⟨s3, hE3⟩
      have allN : (Tr.leaf nm st).names.take ys.length = (Tr.leaf nm st).names := List.take_of_length_le (by rw [al.len, Tr.all_len]; exact Nat.le_refl _)
      rw [allN] at hE3
      have s03 : Sm H H3 := (s1.trans s2).trans s3
      have hp13 := s3.lst (s2.lst hp1)
      refine ⟨_, _, .lst (SqL.of hp13) (strsDp _), .lst (SqL.of hE3) (strsDp _), strs_shaped nms, strs_shaped nms, _, rfl, ?_⟩
      rw [SeqAt.eqv_refl (.list ((Tr.leaf nm st).names.map PyData.str)) (shaped_lay (strs_shaped nms))]
      refine iteF ?_
      -- the sorts
      have h13 := s03.ins h1
      have g13 := s03.tup g1
      refine ⟨_, rfl, _, _, _, _, _, rfl, .own _, .base (.ins h13 IC.cl IC.ha k.ik.hn k.ik.htk IC.hm), kL, _, rfl, _, _, _, _, _, rfl, .own _, .base (.ins h13 IC.cl IC.ha k.ik.hn k.ik.htk IC.hm), kR, _, rfl, _, _, _, _, _, rfl, .own _, .base (.ins h13 IC.cl IC.ha k.ik.hn k.ik.htk IC.hm), kB, by show 3 ≤ sizeLine; decide, fun p3 hp3 => ?_⟩
      have s4 : Sm H3 (upd H3 p3 (.lst [.bl true, .bl false, .bl false])) := Sm.new hp3
      refine ⟨_, rfl, _, rfl, a, _, _, _, rfl, rfl, SqT.of (s4.tup g13), jx0, rfl, _, rfl, a, _, _, _, rfl, rfl, SqT.of (s4.tup g13), jx0, rfl, _, rfl, a, _, _, _, rfl, rfl, SqT.of (s4.tup g13), jx0, rfl, by show 3 ≤ sizeLine; decide, fun p4 hp4 => ?_⟩
      have s5 : Sm (upd H3 p3 (.lst [.bl true, .bl false, .bl false])) (upd (upd H3 p3 (.lst [.bl true, .bl false, .bl false])) p4 (.lst [.bl (decide (V.str "leaf" = V.str "leaf")), .bl (decide (V.str "leaf" = V.str "row")), .bl (decide (V.str "leaf" = V.str "bundle"))])) := Sm.new hp4
      refine ⟨_, _, .lst (SqL.of (s5.lst upd_same)) (.cons (.bl _) (.cons (.bl _) (.cons (.bl _) .nil))), .lst (SqL.of upd_same) (.cons (.bl _) (.cons (.bl _) (.cons (.bl _) .nil))), bools_shaped _ _ _, bools_shaped _ _ _, _, rfl, ?_⟩
      rw [eSORT]
      refine iteF ?_
      have s05 : Sm H (upd (upd H3 p3 (.lst [.bl true, .bl false, .bl false])) p4 (.lst [.bl (decide (V.str "leaf" = V.str "leaf")), .bl (decide (V.str "leaf" = V.str "row")), .bl (decide (V.str "leaf" = V.str "bundle"))])) := s03.trans (s4.trans s5)
      clear s5
      revert s05
      generalize upd (upd H3 p3 (.lst [.bl true, .bl false, .bl false])) p4 (.lst [.bl (decide (V.str "leaf" = V.str "leaf")), .bl (decide (V.str "leaf" = V.str "row")), .bl (decide (V.str "leaf" = V.str "bundle"))]) = H5
      intro s05
      have g15 := s05.tup g1
      have h15 := s05.ins h1
      refine ⟨_, rfl, a, _, _, _, rfl, rfl, SqT.of g15, jx0, rfl, _, rfl, ?_⟩
      rw [e1]
      refine iteT ⟨_, rfl, wa, dx, _, rfl, h15, rfl, .ref wa, rfl, fun p6 hp6 => ⟨by show 0 ≤ sizeLine; decide, fun p7 hp7 => ?_⟩⟩
      have s6 := (Sm.new (o := HO.lst []) hp6)
      have s7 := (Sm.new (o := HO.lst []) hp7)
      refine ⟨_, _, .lst (SqL.of (s7.lst upd_same)) .nil, .lst (SqL.of upd_same) .nil, nil_shaped, nil_shaped, _, rfl, ?_⟩
      rw [show PyData.eqv (.list []) (.list []) = true from rfl]
      have s07 := s05.trans (s6.trans s7)
      refine iteT ⟨_, rfl, wa, dx, _, rfl, s07.ins h1, rfl, .ref wa, .leaf nm st, rfl, hw.mono s07, _, rfl, a, _, _, _, rfl, rfl, SqT.of (s07.tup g1), jx2, by cases st <;> rfl, ?_⟩
      show Q (V.bl (decide (stV (Tr.leaf nm st).st = stV st))) _
      rw [decide_eq_true (p := stV (Tr.leaf nm st).st = stV st) rfl]
      exact q _ s07
    | node bb nm ps =>
      have MN : MeN P w K mg base c T1 T2 (c.nd bb) := by
        cases bb
        · exact MB
        · exact MR
      obtain ⟨fN, gN, mN, GN, bN⟩ := MN.name
      obtain ⟨fS, gS, mS, GS, bS⟩ := MN.names
      obtain ⟨fT, gT, mT, GT, bT⟩ := MN.steps
      obtain ⟨fP, gP, mP, GP, bP⟩ := MN.parts
      have IC : IsC K (c.nd bb) := by
        cases bb
        · exact k.iB
        · exact k.iR
      have kW : PySem.W.kitOne K (.ref (c.nd bb)) (.ref c.W) = some true := by
        cases bb
        · exact x.bw
        · exact x.rw
      have kL : PySem.W.kitOne K (.ref (c.nd bb)) (.ref c.L) = some false := by
        cases bb
        · exact x.bl
        · exact x.rl
      have kR : PySem.W.kitOne K (.ref (c.nd bb)) (.ref c.R) = some bb := by
        cases bb
        · exact x.br
        · exact x.rr
      have kB : PySem.W.kitOne K (.ref (c.nd bb)) (.ref c.B) = some (!bb) := by
        cases bb
        · exact x.bb
        · exact x.rb
      obtain ⟨wa, dx, tv, rfl, h1, h2⟩ := id hw
      rw [c.of_nd] at h1
      obtain ⟨a, l, xs, rfl, g1, g2, g3⟩ := id hv
      have e1 : decide (V.str (kindS bb) = V.str "leaf") = false := decide_eq_false (kind_leaf bb)
      have e2 : decide (V.str (kindS bb) = V.str "row") = bb := by cases bb <;> decide +kernel
      have e3 : decide (V.str (kindS bb) = V.str "bundle") = !bb := by cases bb <;> decide +kernel
      have eSORT : PyData.eqv (.list [.bool false, .bool bb, .bool (!bb)]) (.list [.bool (decide (V.str (kindS bb) = V.str "leaf")), .bool (decide (V.str (kindS bb) = V.str "row")), .bool (decide (V.str (kindS bb) = V.str "bundle"))]) = true := by rw [e1, e2, e3]; cases bb <;> rfl
      refine ⟨_, (pss_cons (ps_if (PW.pt (pw_or (pt_not (pt_val (pe_callB call_isi (by rfl) b.isinstance b_isi (pa_cons (pv 0) (pa_cons (pe_glob (v := .ref c.W) (by rfl) x.mW rfl) pa_nil))))) (pw_or (pt_cmpR op_ne (pe_meth0 (pv 0) IC.cl mN GN (hr.mono (by omega)) bN .nil pass0) (pe_ix ix_tup (pv 1) pe_int (fun _ _ => rfl)) (nomark _)) (pw_or1 (pt_cmpR (op_neD (hu64 hr)) (pe_meth0 (pv 0) IC.cl mS GS (hr.mono (by omega)) bS .nil pass0) (pe_lc (own := [("_law_one", 6)]) (g := gName 6) rfl scLawRight.nd (pi_list (pe_call GA (hr.mono (by omega)) (by rfl) DA.m DA.F.kp DA.b .nil pass0 (pa_cons (pv 1) pa_nil))) (blkOk_by (own := [("_law_one", 6)]) (N := ["_law_work_here", "_law_plain", "_law_sorts", "_law_parts", "_law_part", "_law_other", "_law_one"]) (sc := defScope sLawRight) (by decide +kernel)) (fun _ _ _ _ _ => (pg_name (i := 6) scLawRight.nd rfl (.inl rfl))) (fun _ _ _ _ _ => pts_nil) (fun _ _ _ _ _ => (pe_ix (r := rIxT K) ix_tup (pv 6) pe_int (fun _ _ => rfl)))) (nomark _)))))) pss_never pss_nil) (pss_cons (ps_set (i := 2) scLawRight.nd rfl (.inl rfl) (pe_lst (pa_cons (pe_callB call_isi (by rfl) b.isinstance b_isi (pa_cons (pv 0) (pa_cons (pe_glob (v := .ref c.L) (by rfl) k.mL rfl) pa_nil))) (pa_cons (pe_callB call_isi (by rfl) b.isinstance b_isi (pa_cons (pv 0) (pa_cons (pe_glob (v := .ref c.R) (by rfl) k.mR rfl) pa_nil))) (pa_cons (pe_callB call_isi (by rfl) b.isinstance b_isi (pa_cons (pv 0) (pa_cons (pe_glob (v := .ref c.B) (by rfl) k.mB rfl) pa_nil))) pa_nil))))) (pss_cons (ps_if (pt_cmpR (op_neD (hu64 hr)) (pv 2) (pe_lst (pa_cons (pe_cmpR op_eq (pe_ix ix_tup (pv 1) pe_int (fun _ _ => rfl)) pe_str (nomark _)) (pa_cons (pe_cmpR op_eq (pe_ix ix_tup (pv 1) pe_int (fun _ _ => rfl)) pe_str (nomark _)) (pa_cons (pe_cmpR op_eq (pe_ix ix_tup (pv 1) pe_int (fun _ _ => rfl)) pe_str (nomark _)) pa_nil)))) (nomark _)) pss_never pss_nil) (pss_cons (ps_if (pt_cmpR op_eq (pe_ix ix_tup (pv 1) pe_int (fun _ _ => rfl)) pe_str (nomark _)) pss_never pss_nil) (pss_cons (ps_set (i := 3) scLawRight.nd rfl (.inl rfl) (pe_meth0 (pv 0) IC.cl mP GP (hr.mono (by omega)) bP .nil pass0)) (pss_cons (ps_if (PW.pt (pw_or (pt_cmpR op_notN (pe_meth0 (pv 0) IC.cl mT GT (hr.mono (by omega)) bT .nil pass0) pe_non (nomark _)) (pw_or (pt_not (pt_val (pe_callB call_isi (by rfl) b.isinstance b_isi (pa_cons (pv 3) (pa_cons (pe_bltn (v := .ty "list") (by rfl) b.list b_list rfl) pa_nil))))) (pw_or1 (pt_cmpR op_ne (pe_callB call_len_seq (by rfl) b.len PySem.boot_len (pa_cons (pv 3) pa_nil)) (pe_callB call_len_seq (by rfl) b.len PySem.boot_len (pa_cons (pe_ix ix_tup (pv 1) pe_int (fun _ _ => rfl)) pa_nil)) (nomark _)))))) pss_never pss_nil) (pss_cons (ps_for PassesOwn.never rfl (pi_zip (by rfl) b.zip (pa_cons (pv 3) (pa_cons (pe_ix ix_tup (pv 1) pe_int (fun _ _ => rfl)) pa_nil))) (pg_tup rfl (pgs_cons (pg_name (i := 4) scLawRight.nd rfl (.inl rfl)) (pgs_cons (pg_name (i := 5) scLawRight.nd rfl (.inl rfl)) pgs_nil))) (pss_one (ps_if (PW.pt (pw_or (pt_not (pt_val (pe_callB call_isi (by rfl) b.isinstance b_isi (pa_cons (pv 4) (pa_cons (pe_bltn (v := .ty "tuple") (by rfl) b.tuple b_tuple rfl) pa_nil))))) (pw_or (pt_cmpR op_ne (pe_ix ix_tup (pv 4) pe_int (fun _ _ => rfl)) (pe_ix ix_tup (pv 5) pe_int (fun _ _ => rfl)) (nomark _)) (pw_or1 (pt_not (pt_val (pe_call GR (hr.mono (by omega)) (by rfl) DR.m DR.F.kp DR.b .nil pass0 (pa_cons (pe_ix ix_tup (pv 4) pe_int (fun _ _ => rfl)) (pa_cons (pe_ix ix_tup (pv 5) pe_int (fun _ _ => rfl)) pa_nil))))))))) pss_never pss_nil))) (pss_cons (ps_expr (pe_bm0 PySem.F.plainAttrs_list PySem.F.slot_list_clear PySem.F.type_list_clear mt_clear (pv 3))) (pss_cons (ps_expr (pe_bm0 PySem.F.plainAttrs_list PySem.F.slot_list_clear PySem.F.type_list_clear mt_clear (pe_meth0 (pv 0) IC.cl mS GS (hr.mono (by omega)) bS .nil pass0))) (pss_one (ps_ret (pe_and (pe_cmpR op_eq (pe_callB call_len_seq (by rfl) b.len PySem.boot_len (pa_cons (pe_meth0 (pv 0) IC.cl mP GP (hr.mono (by omega)) bP .nil pass0) pa_nil)) (pe_callB call_len_seq (by rfl) b.len PySem.boot_len (pa_cons (pe_ix ix_tup (pv 1) pe_int (fun _ _ => rfl)) pa_nil)) (nomark _)) (pe_one (pe_cmpR (op_neD (hu64 hr)) (pe_meth0 (pv 0) IC.cl mS GS (hr.mono (by omega)) bS .nil pass0) (pe_lst pa_nil) (nomark _))))))))))))))), ?_⟩
      -- isinstance(work, Work), name, names
      refine ⟨_, rfl, _, _, _, _, true, rfl, .own _, .base (.ins h1 IC.cl IC.ha k.ik.hn k.ik.htk IC.hm), kW, true, rfl, iteF ?_⟩
      refine ⟨_, rfl, wa, dx, _, rfl, h1, rfl, .ref wa, (Tr.node bb nm ps), rfl, hw, _, rfl, a, _, _, _, rfl, rfl, SqT.of g1, jx1, rfl, _, rfl, ?_⟩
      rw [decide_eq_true (p := V.str (Tr.node bb nm ps).nm = V.str nm) rfl]
      refine iteF ⟨_, rfl, wa, dx, _, rfl, h1, rfl, .ref wa, (Tr.node bb nm ps), rfl, hw, l5, by omega, fun p1 H1 s1 np1 hp1 => ?_⟩
      refine ⟨_, rfl, .ref a, (Tr.node bb nm ps), rfl, hv.lk s1.lk, l5, by omega, fun p2 ys H2 s2 np2 hp2 al => ?_⟩
      refine ⟨p2, rfl, ⟨_, SqL.of hp2⟩, fun E1 hE1 => lc_list (K := K) (a := p2) (xs := ys) (fun i H3 => Sm H2 H3 ∧ H3 E1 = some (.lst (((Tr.node bb nm ps).names.take i).map V.str))) ⟨Sm.new hE1, upd_same⟩ (fun i H3 _ z => SqL.of (z.1.lst hp2)) ?_ ?_⟩
      · rintro i y H3 hy ⟨s3, hE3⟩
        obtain ⟨sub, hsub⟩ : ∃ sub, (Tr.node bb nm ps).all[i]? = some sub := ⟨(Tr.node bb nm ps).all[i]'(by rw [← al.len]; exact get_lt hy), List.getElem?_eq_getElem _⟩
        obtain ⟨v', hv1, hv2⟩ := al.at_ i sub hsub
        rw [hy] at hv1
        cases hv1
        obtain ⟨a', z', rfl, ha'⟩ := hv2.shape
        have hnm : (Tr.node bb nm ps).names[i]? = some sub.nm := by rw [← Tr.all_nm, List.getElem?_map, hsub]; rfl
        refine ⟨rfl, ?_⟩
        unfold tYes
        refine iteT ⟨_, rfl, a', _, _, _, rfl, rfl, SqT.of (s3.tup ha'), jx1, _, hE3, small1000 (by rw [List.length_map, List.length_take]; omega), s3.put hE1, ?_⟩
        rw [upd_same, take_snoc hnm, List.map_append]
        rfl
      rintro H3 ⟨s3, hE3⟩
      have allN : (Tr.node bb nm ps).names.take ys.length = (Tr.node bb nm ps).names := List.take_of_length_le (by rw [al.len, Tr.all_len]; exact Nat.le_refl _)
      rw [allN] at hE3
      have s03 : Sm H H3 := (s1.trans s2).trans s3
      have hp13 := s3.lst (s2.lst hp1)
      refine ⟨_, _, .lst (SqL.of hp13) (strsDp _), .lst (SqL.of hE3) (strsDp _), strs_shaped nms, strs_shaped nms, _, rfl, ?_⟩
      rw [SeqAt.eqv_refl (.list ((Tr.node bb nm ps).names.map PyData.str)) (shaped_lay (strs_shaped nms))]
      refine iteF ?_
      -- the sorts
      have h13 := s03.ins h1
      have g13 := s03.tup g1
      refine ⟨_, rfl, _, _, _, _, _, rfl, .own _, .base (.ins h13 IC.cl IC.ha k.ik.hn k.ik.htk IC.hm), kL, _, rfl, _, _, _, _, _, rfl, .own _, .base (.ins h13 IC.cl IC.ha k.ik.hn k.ik.htk IC.hm), kR, _, rfl, _, _, _, _, _, rfl, .own _, .base (.ins h13 IC.cl IC.ha k.ik.hn k.ik.htk IC.hm), kB, by show 3 ≤ sizeLine; decide, fun p3 hp3 => ?_⟩
      have s4 : Sm H3 (upd H3 p3 (.lst [.bl false, .bl bb, .bl (!bb)])) := Sm.new hp3
      refine ⟨_, rfl, _, rfl, a, _, _, _, rfl, rfl, SqT.of (s4.tup g13), jx0, rfl, _, rfl, a, _, _, _, rfl, rfl, SqT.of (s4.tup g13), jx0, rfl, _, rfl, a, _, _, _, rfl, rfl, SqT.of (s4.tup g13), jx0, rfl, by show 3 ≤ sizeLine; decide, fun p4 hp4 => ?_⟩
      have s5 : Sm (upd H3 p3 (.lst [.bl false, .bl bb, .bl (!bb)])) (upd (upd H3 p3 (.lst [.bl false, .bl bb, .bl (!bb)])) p4 (.lst [.bl (decide (V.str (kindS bb) = V.str "leaf")), .bl (decide (V.str (kindS bb) = V.str "row")), .bl (decide (V.str (kindS bb) = V.str "bundle"))])) := Sm.new hp4
      refine ⟨_, _, .lst (SqL.of (s5.lst upd_same)) (.cons (.bl _) (.cons (.bl _) (.cons (.bl _) .nil))), .lst (SqL.of upd_same) (.cons (.bl _) (.cons (.bl _) (.cons (.bl _) .nil))), bools_shaped _ _ _, bools_shaped _ _ _, _, rfl, ?_⟩
      rw [eSORT]
      refine iteF ?_
      have s05 : Sm H (upd (upd H3 p3 (.lst [.bl false, .bl bb, .bl (!bb)])) p4 (.lst [.bl (decide (V.str (kindS bb) = V.str "leaf")), .bl (decide (V.str (kindS bb) = V.str "row")), .bl (decide (V.str (kindS bb) = V.str "bundle"))])) := s03.trans (s4.trans s5)
      clear s5
      revert s05
      generalize upd (upd H3 p3 (.lst [.bl false, .bl bb, .bl (!bb)])) p4 (.lst [.bl (decide (V.str (kindS bb) = V.str "leaf")), .bl (decide (V.str (kindS bb) = V.str "row")), .bl (decide (V.str (kindS bb) = V.str "bundle"))]) = H5
      intro s05
      have g15 := s05.tup g1
      have h15 := s05.ins h1
      refine ⟨_, rfl, a, _, _, _, rfl, rfl, SqT.of g15, jx0, rfl, _, rfl, ?_⟩
      rw [e1]
      refine iteF ?_
      -- parts
      refine ⟨_, rfl, wa, dx, _, rfl, h15, rfl, .ref wa, .node bb nm ps, rfl, hw.mono s05, ho, l5, s05.tabG t1, s05.tabG t2, fun pp zs H6 s6 np6 hp6 pw => ?_⟩
      have s06 := s05.trans s6
      have Hpp : H pp = none := s05.free np6
      have lens : zs.length = xs.length := by rw [pw.1, g3.length]; rfl
      refine ⟨_, rfl, wa, dx, _, rfl, s06.ins h1, rfl, .ref wa, rfl, rfl, _, rfl, ?_⟩
      rw [decide_eq_true (p := V.non = V.non) rfl]
      refine iteF ⟨_, rfl, _, _, _, _, true, rfl, .ty _, .base (.lst hp6), kit_list_list, true, rfl, iteF ?_⟩
      refine ⟨_, rfl, pp, _, rfl, .inl (SqL.of hp6), _, rfl, a, _, _, _, rfl, rfl, SqT.of (s06.tup g1), jx2, l, _, rfl, .inl (SqL.of (s06.lst g2)), rfl, _, rfl, ?_⟩
      rw [decide_eq_true (p := V.int (zs.length : Nat) = V.int (xs.length : Nat)) (by rw [lens])]
      refine iteF ?_
      refine ⟨_, rfl, _, rfl, a, _, _, _, rfl, rfl, SqT.of (s06.tup g1), jx2, pp, l, zs, xs, rfl, SqL.of hp6, SqL.of (s06.lst g2), RZ.for_zipL lens
        (fun i σ H1 => ∃ x4 x5 : Option V, σ = [some (V.ref wa), some (.ref a), some (.ref p3), some (.ref pp), x4, x5, none] ∧ Sm H6 H1) ⟨none, none, rfl, Sm.refl H6⟩ (fun i σ H1 hh => ?_) ?_ ?_⟩
      · obtain ⟨_, _, _, sm⟩ := hh
        exact ⟨SqL.of (sm.lst hp6), SqL.of (sm.lst (s06.lst g2))⟩
      · rintro i y1 y2 TT σ H7 hy1 hy2 ⟨x4, x5, rfl, s7⟩ hT
        obtain ⟨w1, u1, q1, z1, d1, rfl, f1, f2⟩ := pw.get hy1
        obtain ⟨w2, u2, q2, z2, d2, rfl, m1, m2⟩ := g3.get hy2
        rw [show (Tr.node bb nm ps).ps.toL = ps.toL from rfl, d2] at d1
        injection d1 with d1
        injection d1 with d11 d12
        subst d11 d12
        have mem := List.mem_of_getElem? d2
        have s8 : Sm H6 (upd H7 TT (.tup [.ref q1, .ref q2])) := s7.trans (Sm.new hT)
        have s08 := s06.trans s8
        refine ⟨TT, _, rfl, SqT.of upd_same, rfl, _, _, rfl, _, _, rfl, rfl, ?_⟩
        refine ⟨_, rfl, _, _, _, _, true, rfl, .ty _, .base (.tup (s8.tup f1)), kit_tup_tup, true, rfl, iteF ?_⟩
        refine ⟨_, rfl, q1, _, _, _, rfl, rfl, SqT.of (s8.tup f1), kx0, _, rfl, q2, _, _, _, rfl, rfl, SqT.of (s08.tup m1), kx0, rfl, _, rfl, ?_⟩
        rw [decide_eq_true (p := V.int w2 = V.int w2) rfl]
        have pok : u2.Ok := ho.part (w' := w2) mem
        have plev : u2.lev ≤ n := lev_part (t := .node bb nm ps) hl mem
        have pl5 : u2.lev ≤ 5 := by
          have z : u2.lev ≤ ps.lev := Ps.lev_mem mem
          have z2 : ps.lev + 1 ≤ 5 := l5
          omega
        have pn : u2.names.length ≤ 20 := by
          have z : u2.names.length ≤ ps.names.length := names_mem mem
          have z2 : (Tr.node bb nm ps).names.length = ps.names.length + 1 := rfl
          omega
        have pnm : ∀ z ∈ u2.names, PyData.strOk z = true := fun z hz => nms z (by
          show z ∈ nm :: ps.names
          rw [Ps.names_toL]
          exact List.mem_cons_of_mem _ (List.mem_flatMap.mpr ⟨(w2, u2), mem, hz⟩))
        refine iteF ⟨_, rfl, q1, _, _, _, rfl, rfl, SqT.of (s8.tup f1), kx1, _, rfl, q2, _, _, _, rfl, rfl, SqT.of (s08.tup m1), kx1, z1, z2, u2, rfl, f2.mono s8, m2.lk s08.lk, pok, plev, pl5, pn, pnm, s08.tabG t1, s08.tabG t2, fun H9 s9 => ⟨true, rfl, iteF ?_⟩⟩
        exact ⟨_, _, rfl, s8.trans s9⟩
      rintro σ H7 ⟨x4, x5, rfl, s7⟩
      have s07 := s06.trans s7
      have hp7 := s7.lst hp6
      -- parts.clear()
      refine ⟨_, rfl, .inl ⟨rfl, _, SqL.of hp7⟩, pp, _, rfl, rfl, hp7, ?_⟩
      have s08 : Sm H (upd H7 pp (.lst [])) := s07.put Hpp
      refine ⟨_, rfl, wa, dx, _, rfl, s08.ins h1, rfl, .ref wa, .node bb nm ps, rfl, hw.mono s08, l5, by omega, fun p9 H9 s9 np9 hp9 => ?_⟩
      have s09 := s08.trans s9
      have H9n : H p9 = none := s08.free np9
      refine ⟨.inl ⟨rfl, _, SqL.of hp9⟩, p9, _, rfl, rfl, hp9, ?_⟩
      have s10 : Sm H (upd H9 p9 (.lst [])) := s09.put H9n
      -- len(parts()) == len(plain[2])
      refine ⟨_, rfl, wa, dx, _, rfl, s10.ins h1, rfl, .ref wa, .node bb nm ps, rfl, hw.mono s10, ho, l5, s10.tabG t1, s10.tabG t2, fun pq zq H11 s11 _ hq11 pw2 => ?_⟩
      have s011 := s10.trans s11
      refine ⟨pq, _, rfl, .inl (SqL.of hq11), _, rfl, a, _, _, _, rfl, rfl, SqT.of (s011.tup g1), jx2, l, _, rfl, .inl (SqL.of (s011.lst g2)), rfl, _, rfl, ?_⟩
      rw [decide_eq_true (p := V.int (zq.length : Nat) = V.int (xs.length : Nat)) (by rw [pw2.1, g3.length]; rfl)]
      refine iteT ⟨_, rfl, wa, dx, _, rfl, s011.ins h1, rfl, .ref wa, .node bb nm ps, rfl, hw.mono s011, l5, by omega, fun p12 H12 s12 _ hp12 => ⟨by show 0 ≤ sizeLine; decide, fun p13 hp13 => ?_⟩⟩
      have s13 := (Sm.new (o := HO.lst []) hp13)
      refine ⟨_, _, .lst (SqL.of (s13.lst hp12)) (strsDp _), .lst (SqL.of upd_same) .nil, strs_shaped nms, nil_shaped, ?_⟩
      rw [show PyData.eqv (.list ((Tr.node bb nm ps).names.map PyData.str)) (.list []) = false from rfl]
      exact q _ ((s011.trans s12).trans s13)
end
end Hf
set_option Elab.async false
set_option maxRecDepth 100000
set_option maxHeartbeats 8000000
namespace Hf
open PySem L2
def spLaw (K : PySem.W.Frag) (T1 T2 : Addr) : Sp := fun vs H Q _ => ∃ (a : Addr) (ns : List Int), vs = [.ref a] ∧ SqL K H a (ns.map V.int) ∧ ns.length ≤ 63 ∧ Tab H T1 ∧ Tab H T2 ∧ ∀ H', Q (.bl true) H'
section
variable {P : Program} {w : World} {K : PySem.W.Frag} {mg : Str → Option Value} {base : Heap} {T1 T2 : Addr} {f : Nat → Addr} {g : Nat → FuncData} {c : Cs} {i : Nat → Addr} {j : Nat → FuncData}
theorem ok_law {fl f1 f2 f3 f4 f5 f6 f7 f8 : Addr} {fdl d1 d2 d3 d4 d5 d6 d7 d8 : FuncData} (F : Fun K "law" "law" sLaw fl fdl) (DD : Gf K mg "_law_plan" sLawPlan ["_law_script", "_law_at"] f1 d1) (DC : Gf K mg "_law_cell_at" sLawCellAt ["_law_script", "_law_k"] f2 d2)
    (DN : Gf K mg "_law_numbers" sLawNumbers ["_law_cell", "_law_bounds"] f3 d3) (DS : Gf K mg "_law_names" sLawNames [] f4 d4) (DW : Gf K mg "_law_work" sLawWork ["_law_digits", "_law_names_here", "_law_deep"] f5 d5) (DM : Gf K mg "_law_made_of" sLawMadeOf ["_law_plain"] f6 d6)
    (DR : Gf K mg "_law_right" sLawRight ["_law_work_here", "_law_plain"] f7 d7) (DA : Gf K mg "_law_all" sLawAll ["_law_plain"] f8 d8) (M : Mi K c i j) (D : Df K mg base T1 T2 f g) (b : Bi mg) (co : Co mg) (k : Kl K mg c) (x : Kx K mg c)
    (ML : MeL P w K mg base c c.L) (MR : MeN P w K mg base c T1 T2 c.R) (MB : MeN P w K mg base c T1 T2 c.B) : FnOk P w K mg base CX0 26 fl fdl ["_law_script"] (spLaw K T1 T2) := by
  have GD : FnOk P w K mg base CX0 7 f1 d1 ["_law_script", "_law_at"] (spDraw K) := ok_draw DD DC DN DS DW b
  have GM : FnOk P w K mg base CX0 14 f6 d6 ["_law_plain"] (spMadeOf c T1 T2 5) := ok_madeOf DM M D b co k 5
  have GR : FnOk P w K mg base CX0 25 f7 d7 ["_law_work_here", "_law_plain"] (spRight c T1 T2 5) := ok_right DR DA b k x ML MR MB 5
  have GL : FnOk P w K mg base CX0 4 (i 0) (j 0) ["self", "name", "steps"] (spLeafInit c T1) := ok_leafInit M.fL D.nm b co k
  obtain ⟨fT, gT, mT, GT, bT⟩ := ML.steps
  refine F.ok scLaw (fun vs H Q E h => ?_) (fun cdv A outer s H vs Q E hr h => ?_)
  · obtain ⟨a, ns, rfl, _⟩ := h
    rfl
  obtain ⟨a, ns, rfl, hS, h63, t1, t2, q⟩ := h
  refine ⟨_, (pss_cons (ps_set (i := 1) scLaw.nd rfl (.inl rfl) (pe_call GD (hr.mono (by decide)) (by rfl) DD.m DD.F.kp DD.b .nil pass0 (pa_cons (pv 0) (pa_cons pe_int pa_nil)))) (pss_one (ps_try_thru0 (pss_cons (ps_set (i := 2) scLaw.nd rfl (.inl rfl) (pe_call GM (hr.mono (by decide)) (by rfl) DM.m DM.F.kp DM.b .nil pass0 (pa_cons (pv 1) pa_nil))) (pss_one (ps_ret (pe_and (pe_call GR (hr.mono (by decide)) (by rfl) DR.m DR.F.kp DR.b .nil pass0 (pa_cons (pv 2) (pa_cons (pv 1) pa_nil))) (pe_and (pe_call GR (hr.mono (by decide)) (by rfl) DR.m DR.F.kp DR.b .nil pass0 (pa_cons (pv 2) (pa_cons (pv 1) pa_nil))) (pe_one (pe_cmpR op_isN (pe_meth0 (pe_make M.mkL GL (hr.mono (by decide)) (by rfl) k.mL (leaf_b2 M.fL) (.cons (show RelV .non Value.none from rfl) .nil) pass0 (pa_cons pe_str pa_nil)) k.iL.cl mT GT (hr.mono (by decide)) bT .nil pass0) pe_non (nomark _))))))))))), ?_⟩
  refine ⟨_, rfl, a, 0, ns, rfl, by decide, hS, h63, fun t v H1 s1 hv dr => ?_⟩
  refine ⟨_, rfl, v, t, rfl, hv, dr.ok, dr.lev, s1.tabG t1, s1.tabG t2, fun wv H2 s2 hw => ?_⟩
  have s12 := s1.trans s2
  have nms : ∀ z ∈ t.names, PyData.strOk z = true := fun z hz => nameOk_str (dr.nm z hz)
  refine ⟨_, rfl, _, rfl, wv, v, t, rfl, hw, hv.lk s2.lk, dr.ok, dr.lev, dr.lev, by have := dr.few; omega, nms, s12.tabG t1, s12.tabG t2, fun H3 s3 => ⟨true, rfl, iteT ?_⟩⟩
  have s13 := s12.trans s3
  refine ⟨_, rfl, _, rfl, wv, v, t, rfl, hw.mono s3, hv.lk (s2.trans s3).lk, dr.ok, dr.lev, dr.lev, by have := dr.few; omega, nms, s13.tabG t1, s13.tabG t2, fun H4 s4 => ⟨true, rfl, iteT ?_⟩⟩
  have s14 := s13.trans s4
  intro z dx hz hd _
  refine ⟨z, dx, "row", none, rfl, upd_same, by decide +kernel, rfl, (made0 hz hd).tabG (s14.tabG t1), fun H5 tv sb hx2 ht => ⟨rfl, ?_⟩⟩
  obtain ⟨s5, w5⟩ := new_leaf (c := c) hz hd sb hx2 ht
  refine ⟨z, dx, _, rfl, hx2, rfl, .ref z, .leaf "row" none, rfl, w5, rfl, ?_⟩
  exact q H5
end
theorem all_mk {l : PySem.W.OpenLaw} {w : World} {K : PySem.W.Frag} {h : Heap} {mg : Str → Option Value} {fa cc1 T1 cc2 T2 : Addr} {c : Cs} (X : K.In h) (G : h.Ns mainGlobals mg) (hfa : mg "law" = some (.ref fa))
    {q0 : Addr} {od0 an0 : Option Addr} {sl0 : Array (Option Value)} {oc0 kV0 dc0 pm0 cd0 ct0 : Value}
    {q1 : Addr} {od1 an1 : Option Addr} {sl1 : Array (Option Value)} {oc1 kV1 dc1 pm1 cd1 ct1 : Value}
    {q2 : Addr} {od2 an2 : Option Addr} {sl2 : Array (Option Value)} {oc2 kV2 dc2 pm2 cd2 ct2 : Value}
    {q3 : Addr} {od3 an3 : Option Addr} {sl3 : Array (Option Value)} {oc3 kV3 dc3 pm3 cd3 ct3 : Value}
    {dTn : Addr} {oTn : Value} {ddn : Option Addr} {nTn : Nat} {slTn : Array (Option Value)}
    {q4 : Addr} {od4 an4 : Option Addr} {sl4 : Array (Option Value)} {oc4 kV4 dc4 pm4 cd4 ct4 : Value}
    {q5 : Addr} {od5 an5 : Option Addr} {sl5 : Array (Option Value)} {oc5 kV5 dc5 pm5 cd5 ct5 : Value}
    {q6 : Addr} {od6 an6 : Option Addr} {sl6 : Array (Option Value)} {oc6 kV6 dc6 pm6 cd6 ct6 : Value}
    {q7 : Addr} {od7 an7 : Option Addr} {sl7 : Array (Option Value)} {oc7 kV7 dc7 pm7 cd7 ct7 : Value}
    {q8 : Addr} {od8 an8 : Option Addr} {sl8 : Array (Option Value)} {oc8 kV8 dc8 pm8 cd8 ct8 : Value}
    {q9 : Addr} {od9 an9 : Option Addr} {sl9 : Array (Option Value)} {oc9 kV9 dc9 pm9 cd9 ct9 : Value}
    {q99 : Addr} {od99 an99 : Option Addr} {sl99 : Array (Option Value)} {oc99 kV99 dc99 pm99 cd99 ct99 : Value}
    {q10 : Addr} {od10 an10 : Option Addr} {sl10 : Array (Option Value)} {oc10 kV10 dc10 pm10 cd10 ct10 : Value}
    {q11 : Addr} {od11 an11 : Option Addr} {sl11 : Array (Option Value)} {oc11 kV11 dc11 pm11 cd11 ct11 : Value}
    {q12 : Addr} {od12 an12 : Option Addr} {sl12 : Array (Option Value)} {oc12 kV12 dc12 pm12 cd12 ct12 : Value}
    {q13 : Addr} {od13 an13 : Option Addr} {sl13 : Array (Option Value)} {oc13 kV13 dc13 pm13 cd13 ct13 : Value}
    {q14 : Addr} {od14 an14 : Option Addr} {sl14 : Array (Option Value)} {oc14 kV14 dc14 pm14 cd14 ct14 : Value}
    {q15 : Addr} {od15 an15 : Option Addr} {sl15 : Array (Option Value)} {oc15 kV15 dc15 pm15 cd15 ct15 : Value}
    {q16 : Addr} {od16 an16 : Option Addr} {sl16 : Array (Option Value)} {oc16 kV16 dc16 pm16 cd16 ct16 : Value}
    {q17 : Addr} {od17 an17 : Option Addr} {sl17 : Array (Option Value)} {oc17 kV17 dc17 pm17 cd17 ct17 : Value}
    {q18 : Addr} {od18 an18 : Option Addr} {sl18 : Array (Option Value)} {oc18 kV18 dc18 pm18 cd18 ct18 : Value}
    {q19 : Addr} {od19 an19 : Option Addr} {sl19 : Array (Option Value)} {oc19 kV19 dc19 pm19 cd19 ct19 : Value}
    {q20 : Addr} {od20 an20 : Option Addr} {sl20 : Array (Option Value)} {oc20 kV20 dc20 pm20 cd20 ct20 : Value}
    {q21 : Addr} {od21 an21 : Option Addr} {sl21 : Array (Option Value)} {oc21 kV21 dc21 pm21 cd21 ct21 : Value}
    {q22 : Addr} {od22 an22 : Option Addr} {sl22 : Array (Option Value)} {oc22 kV22 dc22 pm22 cd22 ct22 : Value}
    {q23 : Addr} {od23 an23 : Option Addr} {sl23 : Array (Option Value)} {oc23 kV23 dc23 pm23 cd23 ct23 : Value}
    {q24 : Addr} {od24 an24 : Option Addr} {sl24 : Array (Option Value)} {oc24 kV24 dc24 pm24 cd24 ct24 : Value}
    {q25 : Addr} {od25 an25 : Option Addr} {sl25 : Array (Option Value)} {oc25 kV25 dc25 pm25 cd25 ct25 : Value}
    {q26 : Addr} {od26 an26 : Option Addr} {sl26 : Array (Option Value)} {oc26 kV26 dc26 pm26 cd26 ct26 : Value}
    {q27 : Addr} {od27 an27 : Option Addr} {sl27 : Array (Option Value)} {oc27 kV27 dc27 pm27 cd27 ct27 : Value}
    {q28 : Addr} {od28 an28 : Option Addr} {sl28 : Array (Option Value)} {oc28 kV28 dc28 pm28 cd28 ct28 : Value}
    {q29 : Addr} {od29 an29 : Option Addr} {sl29 : Array (Option Value)} {oc29 kV29 dc29 pm29 cd29 ct29 : Value}
    {q30 : Addr} {od30 an30 : Option Addr} {sl30 : Array (Option Value)} {oc30 kV30 dc30 pm30 cd30 ct30 : Value}
    {q31 : Addr} {od31 an31 : Option Addr} {sl31 : Array (Option Value)} {oc31 kV31 dc31 pm31 cd31 ct31 : Value}
    {q32 : Addr} {od32 an32 : Option Addr} {sl32 : Array (Option Value)} {oc32 kV32 dc32 pm32 cd32 ct32 : Value}
    {q33 : Addr} {od33 an33 : Option Addr} {sl33 : Array (Option Value)} {oc33 kV33 dc33 pm33 cd33 ct33 : Value}
    {q34 : Addr} {od34 an34 : Option Addr} {sl34 : Array (Option Value)} {oc34 kV34 dc34 pm34 cd34 ct34 : Value}
    {q35 : Addr} {od35 an35 : Option Addr} {sl35 : Array (Option Value)} {oc35 kV35 dc35 pm35 cd35 ct35 : Value}
    {q36 dT : Addr} {od36 an36 dd : Option Addr} {sl36 slT : Array (Option Value)} {oc36 kV36 dc36 pm36 cd36 ct36 oT : Value} {nT : Nat}
    {tk_letters : Tok}
    {tk_steps : Tok}
    {tk_weight : Tok}
    {tk_parts : Tok}
    {tk_works : Tok}
    {tk_within : Tok}
    {tk_leaf : Tok}
    {tk_row : Tok}
    {tk_bundle : Tok}
    (a0 : PySem.W.nsIn K mainGlobals "is_name" = some (some (.ref q0)))
    (l0 : K.lookup q0 = some ⟨oc0, od0, .func (PySem.W.fnOf "is_name" "is_name" (defArgs sIsName) (defBody sIsName) (defScope sIsName) .none kV0 dc0 pm0 an0 cd0 ct0), sl0⟩)
    (c0 : PySem.W.codeIn K cd0 "is_name" = true)
    (k0 : PySem.W.keepIn K (.ref q0) = true)
    (a1 : PySem.W.nsIn K mainGlobals "is_steps" = some (some (.ref q1)))
    (l1 : K.lookup q1 = some ⟨oc1, od1, .func (PySem.W.fnOf "is_steps" "is_steps" (defArgs sIsSteps) (defBody sIsSteps) (defScope sIsSteps) .none kV1 dc1 pm1 an1 cd1 ct1), sl1⟩)
    (c1 : PySem.W.codeIn K cd1 "is_steps" = true)
    (k1 : PySem.W.keepIn K (.ref q1) = true)
    (a2 : PySem.W.nsIn K mainGlobals "is_count" = some (some (.ref q2)))
    (l2 : K.lookup q2 = some ⟨oc2, od2, .func (PySem.W.fnOf "is_count" "is_count" (defArgs sIsCount) (defBody sIsCount) (defScope sIsCount) .none kV2 dc2 pm2 an2 cd2 ct2), sl2⟩)
    (c2 : PySem.W.codeIn K cd2 "is_count" = true)
    (k2 : PySem.W.keepIn K (.ref q2) = true)
    (a3 : PySem.W.nsIn K mainGlobals "is_number" = some (some (.ref q3)))
    (l3 : K.lookup q3 = some ⟨oc3, od3, .func (PySem.W.fnOf "is_number" "is_number" (defArgs sIsNumber) (defBody sIsNumber) (defScope sIsNumber) (.ref dTn) kV3 dc3 pm3 an3 cd3 ct3), sl3⟩)
    (lTn : K.lookup dTn = some ⟨oTn, ddn, .seq ([.none] : List Value).toArray nTn, slTn⟩)
    (c3 : PySem.W.codeIn K cd3 "is_number" = true)
    (k3 : PySem.W.keepIn K (.ref q3) = true)
    (a4 : PySem.W.nsIn K mainGlobals "is_weight" = some (some (.ref q4)))
    (l4 : K.lookup q4 = some ⟨oc4, od4, .func (PySem.W.fnOf "is_weight" "is_weight" (defArgs sIsWeight) (defBody sIsWeight) (defScope sIsWeight) .none kV4 dc4 pm4 an4 cd4 ct4), sl4⟩)
    (c4 : PySem.W.codeIn K cd4 "is_weight" = true)
    (k4 : PySem.W.keepIn K (.ref q4) = true)
    (a5 : PySem.W.nsIn K mainGlobals "is_part" = some (some (.ref q5)))
    (l5 : K.lookup q5 = some ⟨oc5, od5, .func (PySem.W.fnOf "is_part" "is_part" (defArgs sIsPart) (defBody sIsPart) (defScope sIsPart) .none kV5 dc5 pm5 an5 cd5 ct5), sl5⟩)
    (c5 : PySem.W.codeIn K cd5 "is_part" = true)
    (k5 : PySem.W.keepIn K (.ref q5) = true)
    (a6 : PySem.W.nsIn K mainGlobals "names_in" = some (some (.ref q6)))
    (l6 : K.lookup q6 = some ⟨oc6, od6, .func (PySem.W.fnOf "names_in" "names_in" (defArgs sNamesIn) (defBody sNamesIn) (defScope sNamesIn) .none kV6 dc6 pm6 an6 cd6 ct6), sl6⟩)
    (c6 : PySem.W.codeIn K cd6 "names_in" = true)
    (k6 : PySem.W.keepIn K (.ref q6) = true)
    (a7 : PySem.W.nsIn K mainGlobals "levels" = some (some (.ref q7)))
    (l7 : K.lookup q7 = some ⟨oc7, od7, .func (PySem.W.fnOf "levels" "levels" (defArgs sLevels) (defBody sLevels) (defScope sLevels) .none kV7 dc7 pm7 an7 cd7 ct7), sl7⟩)
    (c7 : PySem.W.codeIn K cd7 "levels" = true)
    (k7 : PySem.W.keepIn K (.ref q7) = true)
    (a8 : PySem.W.nsIn K mainGlobals "is_plan" = some (some (.ref q8)))
    (l8 : K.lookup q8 = some ⟨oc8, od8, .func (PySem.W.fnOf "is_plan" "is_plan" (defArgs sIsPlan) (defBody sIsPlan) (defScope sIsPlan) .none kV8 dc8 pm8 an8 cd8 ct8), sl8⟩)
    (c8 : PySem.W.codeIn K cd8 "is_plan" = true)
    (k8 : PySem.W.keepIn K (.ref q8) = true)
    (a9 : PySem.W.nsIn K mainGlobals "tree_of" = some (some (.ref q9)))
    (l9 : K.lookup q9 = some ⟨oc9, od9, .func (PySem.W.fnOf "tree_of" "tree_of" (defArgs sTreeOf) (defBody sTreeOf) (defScope sTreeOf) .none kV9 dc9 pm9 an9 cd9 ct9), sl9⟩)
    (c9 : PySem.W.codeIn K cd9 "tree_of" = true)
    (k9 : PySem.W.keepIn K (.ref q9) = true)
    (a99 : PySem.W.nsIn K mainGlobals "is_work" = some (some (.ref q99)))
    (l99 : K.lookup q99 = some ⟨oc99, od99, .func (PySem.W.fnOf "is_work" "is_work" (defArgs sIsWork) (defBody sIsWork) (defScope sIsWork) .none kV99 dc99 pm99 an99 cd99 ct99), sl99⟩)
    (c99 : PySem.W.codeIn K cd99 "is_work" = true)
    (k99 : PySem.W.keepIn K (.ref q99) = true)
    (a10 : PySem.W.nsIn K mainGlobals "elder_tree" = some (some (.ref q10)))
    (l10 : K.lookup q10 = some ⟨oc10, od10, .func (PySem.W.fnOf "elder_tree" "elder_tree" (defArgs sElderTree) (defBody sElderTree) (defScope sElderTree) .none kV10 dc10 pm10 an10 cd10 ct10), sl10⟩)
    (c10 : PySem.W.codeIn K cd10 "elder_tree" = true)
    (k10 : PySem.W.keepIn K (.ref q10) = true)
    (a11 : PySem.W.nsIn K mainGlobals "parts_of" = some (some (.ref q11)))
    (l11 : K.lookup q11 = some ⟨oc11, od11, .func (PySem.W.fnOf "parts_of" "parts_of" (defArgs sPartsOf) (defBody sPartsOf) (defScope sPartsOf) .none kV11 dc11 pm11 an11 cd11 ct11), sl11⟩)
    (c11 : PySem.W.codeIn K cd11 "parts_of" = true)
    (k11 : PySem.W.keepIn K (.ref q11) = true)
    (a12 : PySem.W.nsIn K mainGlobals "work_of" = some (some (.ref q12)))
    (l12 : K.lookup q12 = some ⟨oc12, od12, .func (PySem.W.fnOf "work_of" "work_of" (defArgs sWorkOf) (defBody sWorkOf) (defScope sWorkOf) .none kV12 dc12 pm12 an12 cd12 ct12), sl12⟩)
    (c12 : PySem.W.codeIn K cd12 "work_of" = true)
    (k12 : PySem.W.keepIn K (.ref q12) = true)
    (a13 : PySem.W.nsIn K mainGlobals "_law_cell_at" = some (some (.ref q13)))
    (l13 : K.lookup q13 = some ⟨oc13, od13, .func (PySem.W.fnOf "_law_cell_at" "_law_cell_at" (defArgs sLawCellAt) (defBody sLawCellAt) (defScope sLawCellAt) .none kV13 dc13 pm13 an13 cd13 ct13), sl13⟩)
    (c13 : PySem.W.codeIn K cd13 "_law_cell_at" = true)
    (k13 : PySem.W.keepIn K (.ref q13) = true)
    (a14 : PySem.W.nsIn K mainGlobals "_law_numbers" = some (some (.ref q14)))
    (l14 : K.lookup q14 = some ⟨oc14, od14, .func (PySem.W.fnOf "_law_numbers" "_law_numbers" (defArgs sLawNumbers) (defBody sLawNumbers) (defScope sLawNumbers) .none kV14 dc14 pm14 an14 cd14 ct14), sl14⟩)
    (c14 : PySem.W.codeIn K cd14 "_law_numbers" = true)
    (k14 : PySem.W.keepIn K (.ref q14) = true)
    (a15 : PySem.W.nsIn K mainGlobals "_law_names" = some (some (.ref q15)))
    (l15 : K.lookup q15 = some ⟨oc15, od15, .func (PySem.W.fnOf "_law_names" "_law_names" (defArgs sLawNames) (defBody sLawNames) (defScope sLawNames) .none kV15 dc15 pm15 an15 cd15 ct15), sl15⟩)
    (c15 : PySem.W.codeIn K cd15 "_law_names" = true)
    (k15 : PySem.W.keepIn K (.ref q15) = true)
    (a16 : PySem.W.nsIn K mainGlobals "_law_work" = some (some (.ref q16)))
    (l16 : K.lookup q16 = some ⟨oc16, od16, .func (PySem.W.fnOf "_law_work" "_law_work" (defArgs sLawWork) (defBody sLawWork) (defScope sLawWork) .none kV16 dc16 pm16 an16 cd16 ct16), sl16⟩)
    (c16 : PySem.W.codeIn K cd16 "_law_work" = true)
    (k16 : PySem.W.keepIn K (.ref q16) = true)
    (a17 : PySem.W.nsIn K mainGlobals "_law_plan" = some (some (.ref q17)))
    (l17 : K.lookup q17 = some ⟨oc17, od17, .func (PySem.W.fnOf "_law_plan" "_law_plan" (defArgs sLawPlan) (defBody sLawPlan) (defScope sLawPlan) .none kV17 dc17 pm17 an17 cd17 ct17), sl17⟩)
    (c17 : PySem.W.codeIn K cd17 "_law_plan" = true)
    (k17 : PySem.W.keepIn K (.ref q17) = true)
    (a18 : PySem.W.nsIn K mainGlobals "_law_all" = some (some (.ref q18)))
    (l18 : K.lookup q18 = some ⟨oc18, od18, .func (PySem.W.fnOf "_law_all" "_law_all" (defArgs sLawAll) (defBody sLawAll) (defScope sLawAll) .none kV18 dc18 pm18 an18 cd18 ct18), sl18⟩)
    (c18 : PySem.W.codeIn K cd18 "_law_all" = true)
    (k18 : PySem.W.keepIn K (.ref q18) = true)
    (a19 : PySem.W.nsIn K mainGlobals "_law_right" = some (some (.ref q19)))
    (l19 : K.lookup q19 = some ⟨oc19, od19, .func (PySem.W.fnOf "_law_right" "_law_right" (defArgs sLawRight) (defBody sLawRight) (defScope sLawRight) .none kV19 dc19 pm19 an19 cd19 ct19), sl19⟩)
    (c19 : PySem.W.codeIn K cd19 "_law_right" = true)
    (k19 : PySem.W.keepIn K (.ref q19) = true)
    (a20 : PySem.W.nsIn K mainGlobals "_law_made_of" = some (some (.ref q20)))
    (l20 : K.lookup q20 = some ⟨oc20, od20, .func (PySem.W.fnOf "_law_made_of" "_law_made_of" (defArgs sLawMadeOf) (defBody sLawMadeOf) (defScope sLawMadeOf) .none kV20 dc20 pm20 an20 cd20 ct20), sl20⟩)
    (c20 : PySem.W.codeIn K cd20 "_law_made_of" = true)
    (k20 : PySem.W.keepIn K (.ref q20) = true)
    (a21 : PySem.W.nsIn K mainGlobals "law" = some (some (.ref q21)))
    (l21 : K.lookup q21 = some ⟨oc21, od21, .func (PySem.W.fnOf "law" "law" (defArgs sLaw) (defBody sLaw) (defScope sLaw) .none kV21 dc21 pm21 an21 cd21 ct21), sl21⟩)
    (c21 : PySem.W.codeIn K cd21 "law" = true)
    (k21 : PySem.W.keepIn K (.ref q21) = true)
    (a22 : PySem.W.findIn K (.ref c.L) "name" = some (some (.ref q22)))
    (l22 : K.lookup q22 = some ⟨oc22, od22, .func (PySem.W.fnOf "name" "Leaf.name" (defArgs sLeafName) (defBody sLeafName) (defScope sLeafName) .none kV22 dc22 pm22 an22 cd22 ct22), sl22⟩)
    (c22 : PySem.W.codeIn K cd22 "Leaf.name" = true)
    (k22 : PySem.W.keepIn K (.ref q22) = true)
    (i22 : PySem.W.isFn K (.ref q22) = true)
    (a23 : PySem.W.findIn K (.ref c.L) "names" = some (some (.ref q23)))
    (l23 : K.lookup q23 = some ⟨oc23, od23, .func (PySem.W.fnOf "names" "Leaf.names" (defArgs sLeafNames) (defBody sLeafNames) (defScope sLeafNames) .none kV23 dc23 pm23 an23 cd23 ct23), sl23⟩)
    (c23 : PySem.W.codeIn K cd23 "Leaf.names" = true)
    (k23 : PySem.W.keepIn K (.ref q23) = true)
    (i23 : PySem.W.isFn K (.ref q23) = true)
    (a24 : PySem.W.findIn K (.ref c.L) "steps" = some (some (.ref q24)))
    (l24 : K.lookup q24 = some ⟨oc24, od24, .func (PySem.W.fnOf "steps" "Leaf.steps" (defArgs sLeafSteps) (defBody sLeafSteps) (defScope sLeafSteps) .none kV24 dc24 pm24 an24 cd24 ct24), sl24⟩)
    (c24 : PySem.W.codeIn K cd24 "Leaf.steps" = true)
    (k24 : PySem.W.keepIn K (.ref q24) = true)
    (i24 : PySem.W.isFn K (.ref q24) = true)
    (a25 : PySem.W.findIn K (.ref c.L) "parts" = some (some (.ref q25)))
    (l25 : K.lookup q25 = some ⟨oc25, od25, .func (PySem.W.fnOf "parts" "Leaf.parts" (defArgs sLeafParts) (defBody sLeafParts) (defScope sLeafParts) .none kV25 dc25 pm25 an25 cd25 ct25), sl25⟩)
    (c25 : PySem.W.codeIn K cd25 "Leaf.parts" = true)
    (k25 : PySem.W.keepIn K (.ref q25) = true)
    (i25 : PySem.W.isFn K (.ref q25) = true)
    (a26 : PySem.W.findIn K (.ref c.R) "name" = some (some (.ref q26)))
    (l26 : K.lookup q26 = some ⟨oc26, od26, .func (PySem.W.fnOf "name" "Row.name" (defArgs sRowName) (defBody sRowName) (defScope sRowName) .none kV26 dc26 pm26 an26 cd26 ct26), sl26⟩)
    (c26 : PySem.W.codeIn K cd26 "Row.name" = true)
    (k26 : PySem.W.keepIn K (.ref q26) = true)
    (i26 : PySem.W.isFn K (.ref q26) = true)
    (a27 : PySem.W.findIn K (.ref c.R) "names" = some (some (.ref q27)))
    (l27 : K.lookup q27 = some ⟨oc27, od27, .func (PySem.W.fnOf "names" "Row.names" (defArgs sRowNames) (defBody sRowNames) (defScope sRowNames) .none kV27 dc27 pm27 an27 cd27 ct27), sl27⟩)
    (c27 : PySem.W.codeIn K cd27 "Row.names" = true)
    (k27 : PySem.W.keepIn K (.ref q27) = true)
    (i27 : PySem.W.isFn K (.ref q27) = true)
    (a28 : PySem.W.findIn K (.ref c.R) "steps" = some (some (.ref q28)))
    (l28 : K.lookup q28 = some ⟨oc28, od28, .func (PySem.W.fnOf "steps" "Row.steps" (defArgs sRowSteps) (defBody sRowSteps) (defScope sRowSteps) .none kV28 dc28 pm28 an28 cd28 ct28), sl28⟩)
    (c28 : PySem.W.codeIn K cd28 "Row.steps" = true)
    (k28 : PySem.W.keepIn K (.ref q28) = true)
    (i28 : PySem.W.isFn K (.ref q28) = true)
    (a29 : PySem.W.findIn K (.ref c.R) "parts" = some (some (.ref q29)))
    (l29 : K.lookup q29 = some ⟨oc29, od29, .func (PySem.W.fnOf "parts" "Row.parts" (defArgs sRowParts) (defBody sRowParts) (defScope sRowParts) .none kV29 dc29 pm29 an29 cd29 ct29), sl29⟩)
    (c29 : PySem.W.codeIn K cd29 "Row.parts" = true)
    (k29 : PySem.W.keepIn K (.ref q29) = true)
    (i29 : PySem.W.isFn K (.ref q29) = true)
    (a30 : PySem.W.findIn K (.ref c.B) "name" = some (some (.ref q30)))
    (l30 : K.lookup q30 = some ⟨oc30, od30, .func (PySem.W.fnOf "name" "Bundle.name" (defArgs sBundleName) (defBody sBundleName) (defScope sBundleName) .none kV30 dc30 pm30 an30 cd30 ct30), sl30⟩)
    (c30 : PySem.W.codeIn K cd30 "Bundle.name" = true)
    (k30 : PySem.W.keepIn K (.ref q30) = true)
    (i30 : PySem.W.isFn K (.ref q30) = true)
    (a31 : PySem.W.findIn K (.ref c.B) "names" = some (some (.ref q31)))
    (l31 : K.lookup q31 = some ⟨oc31, od31, .func (PySem.W.fnOf "names" "Bundle.names" (defArgs sBundleNames) (defBody sBundleNames) (defScope sBundleNames) .none kV31 dc31 pm31 an31 cd31 ct31), sl31⟩)
    (c31 : PySem.W.codeIn K cd31 "Bundle.names" = true)
    (k31 : PySem.W.keepIn K (.ref q31) = true)
    (i31 : PySem.W.isFn K (.ref q31) = true)
    (a32 : PySem.W.findIn K (.ref c.B) "steps" = some (some (.ref q32)))
    (l32 : K.lookup q32 = some ⟨oc32, od32, .func (PySem.W.fnOf "steps" "Bundle.steps" (defArgs sBundleSteps) (defBody sBundleSteps) (defScope sBundleSteps) .none kV32 dc32 pm32 an32 cd32 ct32), sl32⟩)
    (c32 : PySem.W.codeIn K cd32 "Bundle.steps" = true)
    (k32 : PySem.W.keepIn K (.ref q32) = true)
    (i32 : PySem.W.isFn K (.ref q32) = true)
    (a33 : PySem.W.findIn K (.ref c.B) "parts" = some (some (.ref q33)))
    (l33 : K.lookup q33 = some ⟨oc33, od33, .func (PySem.W.fnOf "parts" "Bundle.parts" (defArgs sBundleParts) (defBody sBundleParts) (defScope sBundleParts) .none kV33 dc33 pm33 an33 cd33 ct33), sl33⟩)
    (c33 : PySem.W.codeIn K cd33 "Bundle.parts" = true)
    (k33 : PySem.W.keepIn K (.ref q33) = true)
    (i33 : PySem.W.isFn K (.ref q33) = true)
    (a34 : PySem.W.findIn K (.ref c.R) "__init__" = some (some (.ref q34)))
    (l34 : K.lookup q34 = some ⟨oc34, od34, .func (PySem.W.fnOf "__init__" "Row.__init__" (defArgs sRowInit) (defBody sRowInit) (defScope sRowInit) .none kV34 dc34 pm34 an34 cd34 ct34), sl34⟩)
    (c34 : PySem.W.codeIn K cd34 "Row.__init__" = true)
    (k34 : PySem.W.keepIn K (.ref q34) = true)
    (i34 : PySem.W.isFn K (.ref q34) = true)
    (a35 : PySem.W.findIn K (.ref c.B) "__init__" = some (some (.ref q35)))
    (l35 : K.lookup q35 = some ⟨oc35, od35, .func (PySem.W.fnOf "__init__" "Bundle.__init__" (defArgs sBundleInit) (defBody sBundleInit) (defScope sBundleInit) .none kV35 dc35 pm35 an35 cd35 ct35), sl35⟩)
    (c35 : PySem.W.codeIn K cd35 "Bundle.__init__" = true)
    (k35 : PySem.W.keepIn K (.ref q35) = true)
    (i35 : PySem.W.isFn K (.ref q35) = true)
    (a36 : PySem.W.findIn K (.ref c.L) "__init__" = some (some (.ref q36)))
    (l36 : K.lookup q36 = some ⟨oc36, od36, .func (PySem.W.fnOf "__init__" "Leaf.__init__" (defArgs sLeafInit) (defBody sLeafInit) (defScope sLeafInit) (.ref dT) kV36 dc36 pm36 an36 cd36 ct36), sl36⟩)
    (c36 : PySem.W.codeIn K cd36 "Leaf.__init__" = true)
    (k36 : PySem.W.keepIn K (.ref q36) = true)
    (i36 : PySem.W.isFn K (.ref q36) = true)
    (lT : K.lookup dT = some ⟨oT, dd, .seq ([.none] : List Value).toArray nT, slT⟩)
    (mL : PySem.W.nsIn K mainGlobals "Leaf" = some (some (.ref c.L)))
    (pgL : PySem.W.plainGet K c.L Str.empty = true)
    (hdL : PySem.W.hasDictIn K c.L = true)
    (poL : PySem.W.plainOver K c.L = true)
    (saL : PySem.W.findIn K (.ref c.L) "__setattr__" = some (some (.builtin "object.__setattr__")))
    (mkL : PySem.W.makesIn K c.L = true)
    (kcL : PySem.W.keepIn K (.ref c.L) = true)
    (caL : PySem.W.findIn K (.ref c.L) "__class__" = some (some (.builtin "object.__class__")))
    (moL : PySem.W.mroIn K c.L (.type "object") = some true)
    (ntL : PySem.W.findIn K (.ref c.L) "_tree" = some none)
    (kaL : PySem.W.kitAny K (.ref c.L) [.ref c.L, .ref c.R, .ref c.B] = some true)
    (kwL : PySem.W.kitOne K (.ref c.L) (.ref c.W) = some true)
    (k1LL : PySem.W.kitOne K (.ref c.L) (.ref c.L) = some true)
    (k1LR : PySem.W.kitOne K (.ref c.L) (.ref c.R) = some false)
    (k1LB : PySem.W.kitOne K (.ref c.L) (.ref c.B) = some false)
    (mR : PySem.W.nsIn K mainGlobals "Row" = some (some (.ref c.R)))
    (pgR : PySem.W.plainGet K c.R Str.empty = true)
    (hdR : PySem.W.hasDictIn K c.R = true)
    (poR : PySem.W.plainOver K c.R = true)
    (saR : PySem.W.findIn K (.ref c.R) "__setattr__" = some (some (.builtin "object.__setattr__")))
    (mkR : PySem.W.makesIn K c.R = true)
    (kcR : PySem.W.keepIn K (.ref c.R) = true)
    (caR : PySem.W.findIn K (.ref c.R) "__class__" = some (some (.builtin "object.__class__")))
    (moR : PySem.W.mroIn K c.R (.type "object") = some true)
    (ntR : PySem.W.findIn K (.ref c.R) "_tree" = some none)
    (kaR : PySem.W.kitAny K (.ref c.R) [.ref c.L, .ref c.R, .ref c.B] = some true)
    (kwR : PySem.W.kitOne K (.ref c.R) (.ref c.W) = some true)
    (k1RL : PySem.W.kitOne K (.ref c.R) (.ref c.L) = some false)
    (k1RR : PySem.W.kitOne K (.ref c.R) (.ref c.R) = some true)
    (k1RB : PySem.W.kitOne K (.ref c.R) (.ref c.B) = some false)
    (mB : PySem.W.nsIn K mainGlobals "Bundle" = some (some (.ref c.B)))
    (pgB : PySem.W.plainGet K c.B Str.empty = true)
    (hdB : PySem.W.hasDictIn K c.B = true)
    (poB : PySem.W.plainOver K c.B = true)
    (saB : PySem.W.findIn K (.ref c.B) "__setattr__" = some (some (.builtin "object.__setattr__")))
    (mkB : PySem.W.makesIn K c.B = true)
    (kcB : PySem.W.keepIn K (.ref c.B) = true)
    (caB : PySem.W.findIn K (.ref c.B) "__class__" = some (some (.builtin "object.__class__")))
    (moB : PySem.W.mroIn K c.B (.type "object") = some true)
    (ntB : PySem.W.findIn K (.ref c.B) "_tree" = some none)
    (kaB : PySem.W.kitAny K (.ref c.B) [.ref c.L, .ref c.R, .ref c.B] = some true)
    (kwB : PySem.W.kitOne K (.ref c.B) (.ref c.W) = some true)
    (k1BL : PySem.W.kitOne K (.ref c.B) (.ref c.L) = some false)
    (k1BR : PySem.W.kitOne K (.ref c.B) (.ref c.R) = some false)
    (k1BB : PySem.W.kitOne K (.ref c.B) (.ref c.B) = some true)
    (mW : PySem.W.nsIn K mainGlobals "Work" = some (some (.ref c.W)))
    (hn : PySem.W.specialIn K (.builtin "object.__class__") "__get__" = some (some (.builtin "getset_descriptor.__get__")))
    (htk : PySem.W.takesIn K (.builtin "object.__class__") = some true)
    (co_letters : PySem.W.nsIn K mainGlobals "MOST_LETTERS" = some (some (.int 8 tk_letters)))
    (co_steps : PySem.W.nsIn K mainGlobals "MOST_STEPS" = some (some (.int 1000 tk_steps)))
    (co_weight : PySem.W.nsIn K mainGlobals "MOST_WEIGHT" = some (some (.int 100 tk_weight)))
    (co_parts : PySem.W.nsIn K mainGlobals "MOST_PARTS" = some (some (.int 6 tk_parts)))
    (co_works : PySem.W.nsIn K mainGlobals "MOST_WORKS" = some (some (.int 20 tk_works)))
    (co_within : PySem.W.nsIn K mainGlobals "MOST_WITHIN" = some (some (.int 5 tk_within)))
    (co_leaf : PySem.W.nsIn K mainGlobals "LEAF" = some (some (.str "leaf" tk_leaf)))
    (co_row : PySem.W.nsIn K mainGlobals "ROW" = some (some (.str "row" tk_row)))
    (co_bundle : PySem.W.nsIn K mainGlobals "BUNDLE" = some (some (.str "bundle" tk_bundle)))
    (z_isinstance : PySem.W.nsIn K mainGlobals "isinstance" = some none)
    (z_int : PySem.W.nsIn K mainGlobals "int" = some none)
    (z_bool : PySem.W.nsIn K mainGlobals "bool" = some none)
    (z_str : PySem.W.nsIn K mainGlobals "str" = some none)
    (z_list : PySem.W.nsIn K mainGlobals "list" = some none)
    (z_tuple : PySem.W.nsIn K mainGlobals "tuple" = some none)
    (z_dict : PySem.W.nsIn K mainGlobals "dict" = some none)
    (z_len : PySem.W.nsIn K mainGlobals "len" = some none)
    (z_all : PySem.W.nsIn K mainGlobals "all" = some none)
    (z_any : PySem.W.nsIn K mainGlobals "any" = some none)
    (z_set : PySem.W.nsIn K mainGlobals "set" = some none)
    (z_max : PySem.W.nsIn K mainGlobals "max" = some none)
    (z_min : PySem.W.nsIn K mainGlobals "min" = some none)
    (z_range : PySem.W.nsIn K mainGlobals "range" = some none)
    (z_zip : PySem.W.nsIn K mainGlobals "zip" = some none)
    (z_sum : PySem.W.nsIn K mainGlobals "sum" = some none)
    (z_sorted : PySem.W.nsIn K mainGlobals "sorted" = some none)
    (z_abs : PySem.W.nsIn K mainGlobals "abs" = some none)
    (z_enumerate : PySem.W.nsIn K mainGlobals "enumerate" = some none)
    (tb1 : PySem.W.tabIn K "is_name" = some (cc1, T1))
    (tb2 : PySem.W.tabIn K "elder_tree" = some (cc2, T2))
    (nl1 : K.lookup T1 = none)
    (nl2 : K.lookup T2 = none) :
    ∃ fd : FuncData, (∀ (s : Shared) (v : Value), BindsTo s fd ⟨[v], []⟩ [("_law_script", v)]) ∧ ∀ base : Heap, K.In base → base.Ns mainGlobals mg → GxR.TabB base mg cc1 T1 → GxR.TabB base mg cc2 T2 → FnOk l.prog w K mg base CX0 26 fa fd ["_law_script"] (spLaw K T1 T2) := by
  have e := hfa.symm.trans (PySem.W.mg_of X G a21)
  cases e
  have F0 := fun_mk (st := sIsName) l0 c0 k0
  have b0 := F0.binds (ps := ["value"]) fun _ _ _ _ _ _ us hl => match us, hl with | [_], _ => rfl
  have F1 := fun_mk (st := sIsSteps) l1 c1 k1
  have b1 := F1.binds (ps := ["value"]) fun _ _ _ _ _ _ us hl => match us, hl with | [_], _ => rfl
  have F2 := fun_mk (st := sIsCount) l2 c2 k2
  have b2 := F2.binds (ps := ["value"]) fun _ _ _ _ _ _ us hl => match us, hl with | [_], _ => rfl
  have F4 := fun_mk (st := sIsWeight) l4 c4 k4
  have b4 := F4.binds (ps := ["value"]) fun _ _ _ _ _ _ us hl => match us, hl with | [_], _ => rfl
  have F5 := fun_mk (st := sIsPart) l5 c5 k5
  have b5 := F5.binds (ps := ["value"]) fun _ _ _ _ _ _ us hl => match us, hl with | [_], _ => rfl
  have F6 := fun_mk (st := sNamesIn) l6 c6 k6
  have b6 := F6.binds (ps := ["tree"]) fun _ _ _ _ _ _ us hl => match us, hl with | [_], _ => rfl
  have F7 := fun_mk (st := sLevels) l7 c7 k7
  have b7 := F7.binds (ps := ["tree"]) fun _ _ _ _ _ _ us hl => match us, hl with | [_], _ => rfl
  have F8 := fun_mk (st := sIsPlan) l8 c8 k8
  have b8 := F8.binds (ps := ["tree"]) fun _ _ _ _ _ _ us hl => match us, hl with | [_], _ => rfl
  have F9 := fun_mk (st := sTreeOf) l9 c9 k9
  have F99 := fun_mk (st := sIsWork) l99 c99 k99
  have b9 := F9.binds (ps := ["work"]) fun _ _ _ _ _ _ us hl => match us, hl with | [_], _ => rfl
  have b99 := F99.binds (ps := ["value"]) fun _ _ _ _ _ _ us hl => match us, hl with | [_], _ => rfl
  have F10 := fun_mk (st := sElderTree) l10 c10 k10
  have b10 := F10.binds (ps := ["kind", "name", "parts"]) fun _ _ _ _ _ _ us hl => match us, hl with | [_, _, _], _ => rfl
  have F11 := fun_mk (st := sPartsOf) l11 c11 k11
  have b11 := F11.binds (ps := ["tree"]) fun _ _ _ _ _ _ us hl => match us, hl with | [_], _ => rfl
  have F12 := fun_mk (st := sWorkOf) l12 c12 k12
  have b12 := F12.binds (ps := ["tree"]) fun _ _ _ _ _ _ us hl => match us, hl with | [_], _ => rfl
  have F13 := fun_mk (st := sLawCellAt) l13 c13 k13
  have b13 := F13.binds (ps := ["_law_script", "_law_k"]) fun _ _ _ _ _ _ us hl => match us, hl with | [_, _], _ => rfl
  have F14 := fun_mk (st := sLawNumbers) l14 c14 k14
  have b14 := F14.binds (ps := ["_law_cell", "_law_bounds"]) fun _ _ _ _ _ _ us hl => match us, hl with | [_, _], _ => rfl
  have F15 := fun_mk (st := sLawNames) l15 c15 k15
  have b15 := F15.binds (ps := []) fun _ _ _ _ _ _ us hl => match us, hl with | [], _ => rfl
  have F16 := fun_mk (st := sLawWork) l16 c16 k16
  have b16 := F16.binds (ps := ["_law_digits", "_law_names_here", "_law_deep"]) fun _ _ _ _ _ _ us hl => match us, hl with | [_, _, _], _ => rfl
  have F17 := fun_mk (st := sLawPlan) l17 c17 k17
  have b17 := F17.binds (ps := ["_law_script", "_law_at"]) fun _ _ _ _ _ _ us hl => match us, hl with | [_, _], _ => rfl
  have F18 := fun_mk (st := sLawAll) l18 c18 k18
  have b18 := F18.binds (ps := ["_law_plain"]) fun _ _ _ _ _ _ us hl => match us, hl with | [_], _ => rfl
  have F19 := fun_mk (st := sLawRight) l19 c19 k19
  have b19 := F19.binds (ps := ["_law_work_here", "_law_plain"]) fun _ _ _ _ _ _ us hl => match us, hl with | [_, _], _ => rfl
  have F20 := fun_mk (st := sLawMadeOf) l20 c20 k20
  have b20 := F20.binds (ps := ["_law_plain"]) fun _ _ _ _ _ _ us hl => match us, hl with | [_], _ => rfl
  have F21 := fun_mk (st := sLaw) l21 c21 k21
  have b21 := F21.binds (ps := ["_law_script"]) fun _ _ _ _ _ _ us hl => match us, hl with | [_], _ => rfl
  have F22 := fun_mk (st := sLeafName) l22 c22 k22
  have b22 := F22.binds (ps := ["self"]) fun _ _ _ _ _ _ us hl => match us, hl with | [_], _ => rfl
  have F23 := fun_mk (st := sLeafNames) l23 c23 k23
  have b23 := F23.binds (ps := ["self"]) fun _ _ _ _ _ _ us hl => match us, hl with | [_], _ => rfl
  have F24 := fun_mk (st := sLeafSteps) l24 c24 k24
  have b24 := F24.binds (ps := ["self"]) fun _ _ _ _ _ _ us hl => match us, hl with | [_], _ => rfl
  have F25 := fun_mk (st := sLeafParts) l25 c25 k25
  have b25 := F25.binds (ps := ["self"]) fun _ _ _ _ _ _ us hl => match us, hl with | [_], _ => rfl
  have F26 := fun_mk (st := sRowName) l26 c26 k26
  have b26 := F26.binds (ps := ["self"]) fun _ _ _ _ _ _ us hl => match us, hl with | [_], _ => rfl
  have F27 := fun_mk (st := sRowNames) l27 c27 k27
  have b27 := F27.binds (ps := ["self"]) fun _ _ _ _ _ _ us hl => match us, hl with | [_], _ => rfl
  have F28 := fun_mk (st := sRowSteps) l28 c28 k28
  have b28 := F28.binds (ps := ["self"]) fun _ _ _ _ _ _ us hl => match us, hl with | [_], _ => rfl
  have F29 := fun_mk (st := sRowParts) l29 c29 k29
  have b29 := F29.binds (ps := ["self"]) fun _ _ _ _ _ _ us hl => match us, hl with | [_], _ => rfl
  have F30 := fun_mk (st := sBundleName) l30 c30 k30
  have b30 := F30.binds (ps := ["self"]) fun _ _ _ _ _ _ us hl => match us, hl with | [_], _ => rfl
  have F31 := fun_mk (st := sBundleNames) l31 c31 k31
  have b31 := F31.binds (ps := ["self"]) fun _ _ _ _ _ _ us hl => match us, hl with | [_], _ => rfl
  have F32 := fun_mk (st := sBundleSteps) l32 c32 k32
  have b32 := F32.binds (ps := ["self"]) fun _ _ _ _ _ _ us hl => match us, hl with | [_], _ => rfl
  have F33 := fun_mk (st := sBundleParts) l33 c33 k33
  have b33 := F33.binds (ps := ["self"]) fun _ _ _ _ _ _ us hl => match us, hl with | [_], _ => rfl
  have F34 := fun_mk (st := sRowInit) l34 c34 k34
  have b34 := F34.binds (ps := ["self", "name", "parts"]) fun _ _ _ _ _ _ us hl => match us, hl with | [_, _, _], _ => rfl
  have F35 := fun_mk (st := sBundleInit) l35 c35 k35
  have b35 := F35.binds (ps := ["self", "name", "parts"]) fun _ _ _ _ _ _ us hl => match us, hl with | [_, _, _], _ => rfl
  have g0 : Gf K mg "is_name" sIsName ["value"] q0 _ := ⟨F0, PySem.W.mg_of X G a0, b0⟩
  have g1 : Gf K mg "is_steps" sIsSteps ["value"] q1 _ := ⟨F1, PySem.W.mg_of X G a1, b1⟩
  have g2 : Gf K mg "is_count" sIsCount ["value"] q2 _ := ⟨F2, PySem.W.mg_of X G a2, b2⟩
  have g3 : Gd K mg "is_number" sIsNumber [.non] q3 _ := ⟨⟨⟨oc3, od3, .ref dTn, kV3, dc3, pm3, an3, cd3, ct3, sl3, rfl, l3, c3, .inr ⟨by simp, dTn, _, _, _, rfl, lTn, rfl, .cons rfl .nil⟩, .inl rfl⟩, k3⟩, PySem.W.mg_of X G a3⟩
  have g4 : Gf K mg "is_weight" sIsWeight ["value"] q4 _ := ⟨F4, PySem.W.mg_of X G a4, b4⟩
  have g5 : Gf K mg "is_part" sIsPart ["value"] q5 _ := ⟨F5, PySem.W.mg_of X G a5, b5⟩
  have g6 : Gf K mg "names_in" sNamesIn ["tree"] q6 _ := ⟨F6, PySem.W.mg_of X G a6, b6⟩
  have g7 : Gf K mg "levels" sLevels ["tree"] q7 _ := ⟨F7, PySem.W.mg_of X G a7, b7⟩
  have g8 : Gf K mg "is_plan" sIsPlan ["tree"] q8 _ := ⟨F8, PySem.W.mg_of X G a8, b8⟩
  have g9 : Gf K mg "tree_of" sTreeOf ["work"] q9 _ := ⟨F9, PySem.W.mg_of X G a9, b9⟩
  have g99 : Gf K mg "is_work" sIsWork ["value"] q99 _ := ⟨F99, PySem.W.mg_of X G a99, b99⟩
  have g10 : Gf K mg "elder_tree" sElderTree ["kind", "name", "parts"] q10 _ := ⟨F10, PySem.W.mg_of X G a10, b10⟩
  have g11 : Gf K mg "parts_of" sPartsOf ["tree"] q11 _ := ⟨F11, PySem.W.mg_of X G a11, b11⟩
  have g12 : Gf K mg "work_of" sWorkOf ["tree"] q12 _ := ⟨F12, PySem.W.mg_of X G a12, b12⟩
  have g13 : Gf K mg "_law_cell_at" sLawCellAt ["_law_script", "_law_k"] q13 _ := ⟨F13, PySem.W.mg_of X G a13, b13⟩
  have g14 : Gf K mg "_law_numbers" sLawNumbers ["_law_cell", "_law_bounds"] q14 _ := ⟨F14, PySem.W.mg_of X G a14, b14⟩
  have g15 : Gf K mg "_law_names" sLawNames [] q15 _ := ⟨F15, PySem.W.mg_of X G a15, b15⟩
  have g16 : Gf K mg "_law_work" sLawWork ["_law_digits", "_law_names_here", "_law_deep"] q16 _ := ⟨F16, PySem.W.mg_of X G a16, b16⟩
  have g17 : Gf K mg "_law_plan" sLawPlan ["_law_script", "_law_at"] q17 _ := ⟨F17, PySem.W.mg_of X G a17, b17⟩
  have g18 : Gf K mg "_law_all" sLawAll ["_law_plain"] q18 _ := ⟨F18, PySem.W.mg_of X G a18, b18⟩
  have g19 : Gf K mg "_law_right" sLawRight ["_law_work_here", "_law_plain"] q19 _ := ⟨F19, PySem.W.mg_of X G a19, b19⟩
  have g20 : Gf K mg "_law_made_of" sLawMadeOf ["_law_plain"] q20 _ := ⟨F20, PySem.W.mg_of X G a20, b20⟩
  have FL : LeafF K q36 (PySem.W.fnOf "__init__" "Leaf.__init__" (defArgs sLeafInit) (defBody sLeafInit) (defScope sLeafInit) (.ref dT) kV36 dc36 pm36 an36 cd36 ct36) := ⟨⟨oc36, od36, .ref dT, kV36, dc36, pm36, an36, cd36, ct36, sl36, rfl, l36, c36, .inr ⟨by simp, dT, _, _, _, rfl, lT, rfl, .cons rfl .nil⟩, .inl rfl⟩, k36⟩
  have b : Bi mg := ⟨PySem.W.mg_none_of X G z_isinstance, PySem.W.mg_none_of X G z_int, PySem.W.mg_none_of X G z_bool, PySem.W.mg_none_of X G z_str, PySem.W.mg_none_of X G z_list, PySem.W.mg_none_of X G z_tuple, PySem.W.mg_none_of X G z_dict, PySem.W.mg_none_of X G z_len, PySem.W.mg_none_of X G z_all, PySem.W.mg_none_of X G z_any, PySem.W.mg_none_of X G z_set, PySem.W.mg_none_of X G z_max, PySem.W.mg_none_of X G z_min, PySem.W.mg_none_of X G z_range, PySem.W.mg_none_of X G z_zip, PySem.W.mg_none_of X G z_sum, PySem.W.mg_none_of X G z_sorted, PySem.W.mg_none_of X G z_abs, PySem.W.mg_none_of X G z_enumerate⟩
  have co : Co mg := ⟨⟨_, PySem.W.mg_of X G co_letters⟩, ⟨_, PySem.W.mg_of X G co_steps⟩, ⟨_, PySem.W.mg_of X G co_weight⟩, ⟨_, PySem.W.mg_of X G co_parts⟩, ⟨_, PySem.W.mg_of X G co_works⟩, ⟨_, PySem.W.mg_of X G co_within⟩, ⟨_, PySem.W.mg_of X G co_leaf⟩, ⟨_, PySem.W.mg_of X G co_row⟩, ⟨_, PySem.W.mg_of X G co_bundle⟩⟩
  have iL : IsC K c.L := ⟨⟨pgL, hdL, poL, saL⟩, caL, moL⟩
  have iR : IsC K c.R := ⟨⟨pgR, hdR, poR, saR⟩, caR, moR⟩
  have iB : IsC K c.B := ⟨⟨pgB, hdB, poB, saB⟩, caB, moB⟩
  have k : Kl K mg c := ⟨iL, iR, iB, ⟨hn, htk⟩, ntL, ntR, ntB, PySem.W.mg_of X G mL, PySem.W.mg_of X G mR, PySem.W.mg_of X G mB, kaL, kaR, kaB⟩
  have x : Kx K mg c := ⟨PySem.W.mg_of X G mW, kwL, kwR, kwB, k1LL, k1LR, k1LB, k1RL, k1RR, k1RB, k1BL, k1BR, k1BB⟩
  have M : Mi K c (fun z => match z with | 0 => q36 | 1 => q34 | _ => q35) (fun z => match z with | 0 => PySem.W.fnOf "__init__" "Leaf.__init__" (defArgs sLeafInit) (defBody sLeafInit) (defScope sLeafInit) (.ref dT) kV36 dc36 pm36 an36 cd36 ct36 | 1 => PySem.W.fnOf "__init__" "Row.__init__" (defArgs sRowInit) (defBody sRowInit) (defScope sRowInit) .none kV34 dc34 pm34 an34 cd34 ct34 | _ => PySem.W.fnOf "__init__" "Bundle.__init__" (defArgs sBundleInit) (defBody sBundleInit) (defScope sBundleInit) .none kV35 dc35 pm35 an35 cd35 ct35) := ⟨⟨mkL, a36, i36, kcL⟩, FL, ⟨mkR, a34, i34, kcR⟩, F34, b34, ⟨mkB, a35, i35, kcB⟩, F35, b35⟩
  refine ⟨PySem.W.fnOf "law" "law" (defArgs sLaw) (defBody sLaw) (defScope sLaw) .none kV21 dc21 pm21 an21 cd21 ct21, fun s v => .of_eq rfl, fun base _ _ tB1 tB2 => ?_⟩
  have gt1 : Gt K mg base "is_name" sIsName ["value"] q0 _ T1 := ⟨g0, cc1, PySem.W.law_code X G tb1 (PySem.W.mg_of X G a0) (X _ _ l0) rfl, tB1⟩
  have gt2 : Gt K mg base "elder_tree" sElderTree ["kind", "name", "parts"] q10 _ T2 := ⟨g10, cc2, PySem.W.law_code X G tb2 (PySem.W.mg_of X G a10) (X _ _ l10) rfl, tB2⟩
  have D : Df K mg base T1 T2 (fun z => match z with | 0 => q0 | 1 => q1 | 2 => q2 | 3 => q3 | 4 => q4 | 5 => q5 | 6 => q6 | 7 => q7 | 8 => q8 | 9 => q9 | 10 => q10 | 11 => q11 | 12 => q12 | 13 => q99 | _ => q0) (fun z => match z with | 0 => PySem.W.fnOf "is_name" "is_name" (defArgs sIsName) (defBody sIsName) (defScope sIsName) .none kV0 dc0 pm0 an0 cd0 ct0 | 1 => PySem.W.fnOf "is_steps" "is_steps" (defArgs sIsSteps) (defBody sIsSteps) (defScope sIsSteps) .none kV1 dc1 pm1 an1 cd1 ct1 | 2 => PySem.W.fnOf "is_count" "is_count" (defArgs sIsCount) (defBody sIsCount) (defScope sIsCount) .none kV2 dc2 pm2 an2 cd2 ct2 | 3 => PySem.W.fnOf "is_number" "is_number" (defArgs sIsNumber) (defBody sIsNumber) (defScope sIsNumber) (.ref dTn) kV3 dc3 pm3 an3 cd3 ct3 | 4 => PySem.W.fnOf "is_weight" "is_weight" (defArgs sIsWeight) (defBody sIsWeight) (defScope sIsWeight) .none kV4 dc4 pm4 an4 cd4 ct4 | 5 => PySem.W.fnOf "is_part" "is_part" (defArgs sIsPart) (defBody sIsPart) (defScope sIsPart) .none kV5 dc5 pm5 an5 cd5 ct5 | 6 => PySem.W.fnOf "names_in" "names_in" (defArgs sNamesIn) (defBody sNamesIn) (defScope sNamesIn) .none kV6 dc6 pm6 an6 cd6 ct6 | 7 => PySem.W.fnOf "levels" "levels" (defArgs sLevels) (defBody sLevels) (defScope sLevels) .none kV7 dc7 pm7 an7 cd7 ct7 | 8 => PySem.W.fnOf "is_plan" "is_plan" (defArgs sIsPlan) (defBody sIsPlan) (defScope sIsPlan) .none kV8 dc8 pm8 an8 cd8 ct8 | 9 => PySem.W.fnOf "tree_of" "tree_of" (defArgs sTreeOf) (defBody sTreeOf) (defScope sTreeOf) .none kV9 dc9 pm9 an9 cd9 ct9 | 10 => PySem.W.fnOf "elder_tree" "elder_tree" (defArgs sElderTree) (defBody sElderTree) (defScope sElderTree) .none kV10 dc10 pm10 an10 cd10 ct10 | 11 => PySem.W.fnOf "parts_of" "parts_of" (defArgs sPartsOf) (defBody sPartsOf) (defScope sPartsOf) .none kV11 dc11 pm11 an11 cd11 ct11 | 12 => PySem.W.fnOf "work_of" "work_of" (defArgs sWorkOf) (defBody sWorkOf) (defScope sWorkOf) .none kV12 dc12 pm12 an12 cd12 ct12 | 13 => PySem.W.fnOf "is_work" "is_work" (defArgs sIsWork) (defBody sIsWork) (defScope sIsWork) .none kV99 dc99 pm99 an99 cd99 ct99 | _ => PySem.W.fnOf "is_name" "is_name" (defArgs sIsName) (defBody sIsName) (defScope sIsName) .none kV0 dc0 pm0 an0 cd0 ct0) := ⟨gt1, g1, g2, g3, g4, g5, g6, g7, g8, g9, gt2, g11, g12, g99⟩
  have ML : MeL l.prog w K mg base c c.L := ⟨⟨_, _, ⟨a22, i22, k22⟩, ok_LeafName F22 k, b22⟩, ⟨_, _, ⟨a23, i23, k23⟩, ok_LeafNames F23 D k, b23⟩, ⟨_, _, ⟨a24, i24, k24⟩, ok_LeafSteps F24 k, b24⟩, ⟨_, _, ⟨a25, i25, k25⟩, ok_LeafParts F25, b25⟩⟩
  have MR : MeN l.prog w K mg base c T1 T2 c.R := ⟨⟨_, _, ⟨a26, i26, k26⟩, ok_RowName F26 k, b26⟩, ⟨_, _, ⟨a27, i27, k27⟩, ok_RowNames F27 D k, b27⟩, ⟨_, _, ⟨a28, i28, k28⟩, ok_RowSteps F28, b28⟩, ⟨_, _, ⟨a29, i29, k29⟩, ok_RowParts F29 M D b co k, b29⟩⟩
  have MB : MeN l.prog w K mg base c T1 T2 c.B := ⟨⟨_, _, ⟨a30, i30, k30⟩, ok_BundleName F30 k, b30⟩, ⟨_, _, ⟨a31, i31, k31⟩, ok_BundleNames F31 D k, b31⟩, ⟨_, _, ⟨a32, i32, k32⟩, ok_BundleSteps F32, b32⟩, ⟨_, _, ⟨a33, i33, k33⟩, ok_BundleParts F33 M D b co k, b33⟩⟩
  exact ok_law (F21) g17 g13 g14 g15 g16 g20 g19 g18 M D b co k x ML MR MB
theorem kit_two {K : PySem.W.Frag} {a b : Addr} {o : ClassData} {r : Bool} (n : (Value.ref a == Value.ref b) = false) (ci : PySem.W.clsIn K b = some o) (ti : PySem.W.typeIn K (.ref b) = some (.type "type")) (su : PySem.W.subIn K (.ref a) (.ref b) = some r) : PySem.W.kitOne K (.ref a) (.ref b) = some r := by
  unfold PySem.W.kitOne PySem.W.kitCls
  simp [n, ci, ti, su]
theorem kit_same {K : PySem.W.Frag} {a : Addr} : PySem.W.kitOne K (.ref a) (.ref a) = some true := by
  unfold PySem.W.kitOne
  simp
theorem kit_any1 {K : PySem.W.Frag} {a b : Value} {r : List Value} (e : PySem.W.kitOne K a b = some true) : PySem.W.kitAny K a (b :: r) = some true := by
  unfold PySem.W.kitAny
  rw [e]
theorem kit_any0 {K : PySem.W.Frag} {a b : Value} {r : List Value} (e : PySem.W.kitOne K a b = some false) (h : PySem.W.kitAny K a r = some true) : PySem.W.kitAny K a (b :: r) = some true := by
  unfold PySem.W.kitAny
  rw [e]
  exact h
theorem tab_mk {K : PySem.W.Frag} {x : Str} {q cc T : Addr} {oq oc : Value} {od od2 : Option Addr} {sq sl : Array (Option Value)} {fd : FuncData} {vs : Array Value} (a : PySem.W.nsIn K mainGlobals x = some (some (.ref q))) (l : K.lookup q = some ⟨oq, od, .func fd, sq⟩)
    (e : fd.code = .ref cc) (c : K.lookup cc = some ⟨oc, od2, .fields vs, sl⟩) (v : (vs[11]? : Option Value) = some (.ref T)) : PySem.W.tabIn K x = some (cc, T) := by
  unfold PySem.W.tabIn
  simp only [a, l, e, c, v]
theorem all_mk2 {l : PySem.W.OpenLaw} {w : World} {K : PySem.W.Frag} {h : Heap} {mg : Str → Option Value} {fa cc1 T1 cc2 T2 cW cL cR cB : Addr} (X : K.In h) (G : h.Ns mainGlobals mg) (hfa : mg "law" = some (.ref fa))
    {q0 : Addr} {od0 an0 : Option Addr} {sl0 : Array (Option Value)} {oc0 kV0 dc0 pm0 ct0 : Value}
    {q1 : Addr} {od1 an1 : Option Addr} {sl1 : Array (Option Value)} {oc1 kV1 dc1 pm1 cd1 ct1 : Value}
    {q2 : Addr} {od2 an2 : Option Addr} {sl2 : Array (Option Value)} {oc2 kV2 dc2 pm2 cd2 ct2 : Value}
    {q3 : Addr} {od3 an3 : Option Addr} {sl3 : Array (Option Value)} {oc3 kV3 dc3 pm3 cd3 ct3 : Value}
    {dTn : Addr} {oTn : Value} {ddn : Option Addr} {nTn : Nat} {slTn : Array (Option Value)}
    {q4 : Addr} {od4 an4 : Option Addr} {sl4 : Array (Option Value)} {oc4 kV4 dc4 pm4 cd4 ct4 : Value}
    {q5 : Addr} {od5 an5 : Option Addr} {sl5 : Array (Option Value)} {oc5 kV5 dc5 pm5 cd5 ct5 : Value}
    {q6 : Addr} {od6 an6 : Option Addr} {sl6 : Array (Option Value)} {oc6 kV6 dc6 pm6 cd6 ct6 : Value}
    {q7 : Addr} {od7 an7 : Option Addr} {sl7 : Array (Option Value)} {oc7 kV7 dc7 pm7 cd7 ct7 : Value}
    {q8 : Addr} {od8 an8 : Option Addr} {sl8 : Array (Option Value)} {oc8 kV8 dc8 pm8 cd8 ct8 : Value}
    {q9 : Addr} {od9 an9 : Option Addr} {sl9 : Array (Option Value)} {oc9 kV9 dc9 pm9 cd9 ct9 : Value}
    {q99 : Addr} {od99 an99 : Option Addr} {sl99 : Array (Option Value)} {oc99 kV99 dc99 pm99 cd99 ct99 : Value}
    {q10 : Addr} {od10 an10 : Option Addr} {sl10 : Array (Option Value)} {oc10 kV10 dc10 pm10 ct10 : Value}
    {q11 : Addr} {od11 an11 : Option Addr} {sl11 : Array (Option Value)} {oc11 kV11 dc11 pm11 cd11 ct11 : Value}
    {q12 : Addr} {od12 an12 : Option Addr} {sl12 : Array (Option Value)} {oc12 kV12 dc12 pm12 cd12 ct12 : Value}
    {q13 : Addr} {od13 an13 : Option Addr} {sl13 : Array (Option Value)} {oc13 kV13 dc13 pm13 cd13 ct13 : Value}
    {q14 : Addr} {od14 an14 : Option Addr} {sl14 : Array (Option Value)} {oc14 kV14 dc14 pm14 cd14 ct14 : Value}
    {q15 : Addr} {od15 an15 : Option Addr} {sl15 : Array (Option Value)} {oc15 kV15 dc15 pm15 cd15 ct15 : Value}
    {q16 : Addr} {od16 an16 : Option Addr} {sl16 : Array (Option Value)} {oc16 kV16 dc16 pm16 cd16 ct16 : Value}
    {q17 : Addr} {od17 an17 : Option Addr} {sl17 : Array (Option Value)} {oc17 kV17 dc17 pm17 cd17 ct17 : Value}
    {q18 : Addr} {od18 an18 : Option Addr} {sl18 : Array (Option Value)} {oc18 kV18 dc18 pm18 cd18 ct18 : Value}
    {q19 : Addr} {od19 an19 : Option Addr} {sl19 : Array (Option Value)} {oc19 kV19 dc19 pm19 cd19 ct19 : Value}
    {q20 : Addr} {od20 an20 : Option Addr} {sl20 : Array (Option Value)} {oc20 kV20 dc20 pm20 cd20 ct20 : Value}
    {q21 : Addr} {od21 an21 : Option Addr} {sl21 : Array (Option Value)} {oc21 kV21 dc21 pm21 cd21 ct21 : Value}
    {q22 : Addr} {od22 an22 : Option Addr} {sl22 : Array (Option Value)} {oc22 kV22 dc22 pm22 cd22 ct22 : Value}
    {q23 : Addr} {od23 an23 : Option Addr} {sl23 : Array (Option Value)} {oc23 kV23 dc23 pm23 cd23 ct23 : Value}
    {q24 : Addr} {od24 an24 : Option Addr} {sl24 : Array (Option Value)} {oc24 kV24 dc24 pm24 cd24 ct24 : Value}
    {q25 : Addr} {od25 an25 : Option Addr} {sl25 : Array (Option Value)} {oc25 kV25 dc25 pm25 cd25 ct25 : Value}
    {q26 : Addr} {od26 an26 : Option Addr} {sl26 : Array (Option Value)} {oc26 kV26 dc26 pm26 cd26 ct26 : Value}
    {q27 : Addr} {od27 an27 : Option Addr} {sl27 : Array (Option Value)} {oc27 kV27 dc27 pm27 cd27 ct27 : Value}
    {q28 : Addr} {od28 an28 : Option Addr} {sl28 : Array (Option Value)} {oc28 kV28 dc28 pm28 cd28 ct28 : Value}
    {q29 : Addr} {od29 an29 : Option Addr} {sl29 : Array (Option Value)} {oc29 kV29 dc29 pm29 cd29 ct29 : Value}
    {q30 : Addr} {od30 an30 : Option Addr} {sl30 : Array (Option Value)} {oc30 kV30 dc30 pm30 cd30 ct30 : Value}
    {q31 : Addr} {od31 an31 : Option Addr} {sl31 : Array (Option Value)} {oc31 kV31 dc31 pm31 cd31 ct31 : Value}
    {q32 : Addr} {od32 an32 : Option Addr} {sl32 : Array (Option Value)} {oc32 kV32 dc32 pm32 cd32 ct32 : Value}
    {q33 : Addr} {od33 an33 : Option Addr} {sl33 : Array (Option Value)} {oc33 kV33 dc33 pm33 cd33 ct33 : Value}
    {q34 : Addr} {od34 an34 : Option Addr} {sl34 : Array (Option Value)} {oc34 kV34 dc34 pm34 cd34 ct34 : Value}
    {q35 : Addr} {od35 an35 : Option Addr} {sl35 : Array (Option Value)} {oc35 kV35 dc35 pm35 cd35 ct35 : Value}
    {q36 dT : Addr} {od36 an36 dd : Option Addr} {sl36 slT : Array (Option Value)} {oc36 kV36 dc36 pm36 cd36 ct36 oT : Value} {nT : Nat}
    {tk_letters : Tok}
    {tk_steps : Tok}
    {tk_weight : Tok}
    {tk_parts : Tok}
    {tk_works : Tok}
    {tk_within : Tok}
    {tk_leaf : Tok}
    {tk_row : Tok}
    {tk_bundle : Tok}
    {oc_1 oc_2 : Value} {od_1 od_2 : Option Addr} {vs_1 vs_2 : Array Value} {sl_1 sl_2 : Array (Option Value)} {ic_L ic_R ic_B ic_W : ClassData}
    (a0 : PySem.W.nsIn K mainGlobals "is_name" = some (some (.ref q0)))
    (l0 : K.lookup q0 = some ⟨oc0, od0, .func (PySem.W.fnOf "is_name" "is_name" (defArgs sIsName) (defBody sIsName) (defScope sIsName) .none kV0 dc0 pm0 an0 (.ref cc1) ct0), sl0⟩)
    (c0 : PySem.W.codeIn K (.ref cc1) "is_name" = true)
    (k0 : PySem.W.keepIn K (.ref q0) = true)
    (a1 : PySem.W.nsIn K mainGlobals "is_steps" = some (some (.ref q1)))
    (l1 : K.lookup q1 = some ⟨oc1, od1, .func (PySem.W.fnOf "is_steps" "is_steps" (defArgs sIsSteps) (defBody sIsSteps) (defScope sIsSteps) .none kV1 dc1 pm1 an1 cd1 ct1), sl1⟩)
    (c1 : PySem.W.codeIn K cd1 "is_steps" = true)
    (k1 : PySem.W.keepIn K (.ref q1) = true)
    (a2 : PySem.W.nsIn K mainGlobals "is_count" = some (some (.ref q2)))
    (l2 : K.lookup q2 = some ⟨oc2, od2, .func (PySem.W.fnOf "is_count" "is_count" (defArgs sIsCount) (defBody sIsCount) (defScope sIsCount) .none kV2 dc2 pm2 an2 cd2 ct2), sl2⟩)
    (c2 : PySem.W.codeIn K cd2 "is_count" = true)
    (k2 : PySem.W.keepIn K (.ref q2) = true)
    (a3 : PySem.W.nsIn K mainGlobals "is_number" = some (some (.ref q3)))
    (l3 : K.lookup q3 = some ⟨oc3, od3, .func (PySem.W.fnOf "is_number" "is_number" (defArgs sIsNumber) (defBody sIsNumber) (defScope sIsNumber) (.ref dTn) kV3 dc3 pm3 an3 cd3 ct3), sl3⟩)
    (lTn : K.lookup dTn = some ⟨oTn, ddn, .seq ([.none] : List Value).toArray nTn, slTn⟩)
    (c3 : PySem.W.codeIn K cd3 "is_number" = true)
    (k3 : PySem.W.keepIn K (.ref q3) = true)
    (a4 : PySem.W.nsIn K mainGlobals "is_weight" = some (some (.ref q4)))
    (l4 : K.lookup q4 = some ⟨oc4, od4, .func (PySem.W.fnOf "is_weight" "is_weight" (defArgs sIsWeight) (defBody sIsWeight) (defScope sIsWeight) .none kV4 dc4 pm4 an4 cd4 ct4), sl4⟩)
    (c4 : PySem.W.codeIn K cd4 "is_weight" = true)
    (k4 : PySem.W.keepIn K (.ref q4) = true)
    (a5 : PySem.W.nsIn K mainGlobals "is_part" = some (some (.ref q5)))
    (l5 : K.lookup q5 = some ⟨oc5, od5, .func (PySem.W.fnOf "is_part" "is_part" (defArgs sIsPart) (defBody sIsPart) (defScope sIsPart) .none kV5 dc5 pm5 an5 cd5 ct5), sl5⟩)
    (c5 : PySem.W.codeIn K cd5 "is_part" = true)
    (k5 : PySem.W.keepIn K (.ref q5) = true)
    (a6 : PySem.W.nsIn K mainGlobals "names_in" = some (some (.ref q6)))
    (l6 : K.lookup q6 = some ⟨oc6, od6, .func (PySem.W.fnOf "names_in" "names_in" (defArgs sNamesIn) (defBody sNamesIn) (defScope sNamesIn) .none kV6 dc6 pm6 an6 cd6 ct6), sl6⟩)
    (c6 : PySem.W.codeIn K cd6 "names_in" = true)
    (k6 : PySem.W.keepIn K (.ref q6) = true)
    (a7 : PySem.W.nsIn K mainGlobals "levels" = some (some (.ref q7)))
    (l7 : K.lookup q7 = some ⟨oc7, od7, .func (PySem.W.fnOf "levels" "levels" (defArgs sLevels) (defBody sLevels) (defScope sLevels) .none kV7 dc7 pm7 an7 cd7 ct7), sl7⟩)
    (c7 : PySem.W.codeIn K cd7 "levels" = true)
    (k7 : PySem.W.keepIn K (.ref q7) = true)
    (a8 : PySem.W.nsIn K mainGlobals "is_plan" = some (some (.ref q8)))
    (l8 : K.lookup q8 = some ⟨oc8, od8, .func (PySem.W.fnOf "is_plan" "is_plan" (defArgs sIsPlan) (defBody sIsPlan) (defScope sIsPlan) .none kV8 dc8 pm8 an8 cd8 ct8), sl8⟩)
    (c8 : PySem.W.codeIn K cd8 "is_plan" = true)
    (k8 : PySem.W.keepIn K (.ref q8) = true)
    (a9 : PySem.W.nsIn K mainGlobals "tree_of" = some (some (.ref q9)))
    (l9 : K.lookup q9 = some ⟨oc9, od9, .func (PySem.W.fnOf "tree_of" "tree_of" (defArgs sTreeOf) (defBody sTreeOf) (defScope sTreeOf) .none kV9 dc9 pm9 an9 cd9 ct9), sl9⟩)
    (c9 : PySem.W.codeIn K cd9 "tree_of" = true)
    (k9 : PySem.W.keepIn K (.ref q9) = true)
    (a99 : PySem.W.nsIn K mainGlobals "is_work" = some (some (.ref q99)))
    (l99 : K.lookup q99 = some ⟨oc99, od99, .func (PySem.W.fnOf "is_work" "is_work" (defArgs sIsWork) (defBody sIsWork) (defScope sIsWork) .none kV99 dc99 pm99 an99 cd99 ct99), sl99⟩)
    (c99 : PySem.W.codeIn K cd99 "is_work" = true)
    (k99 : PySem.W.keepIn K (.ref q99) = true)
    (a10 : PySem.W.nsIn K mainGlobals "elder_tree" = some (some (.ref q10)))
    (l10 : K.lookup q10 = some ⟨oc10, od10, .func (PySem.W.fnOf "elder_tree" "elder_tree" (defArgs sElderTree) (defBody sElderTree) (defScope sElderTree) .none kV10 dc10 pm10 an10 (.ref cc2) ct10), sl10⟩)
    (c10 : PySem.W.codeIn K (.ref cc2) "elder_tree" = true)
    (k10 : PySem.W.keepIn K (.ref q10) = true)
    (a11 : PySem.W.nsIn K mainGlobals "parts_of" = some (some (.ref q11)))
    (l11 : K.lookup q11 = some ⟨oc11, od11, .func (PySem.W.fnOf "parts_of" "parts_of" (defArgs sPartsOf) (defBody sPartsOf) (defScope sPartsOf) .none kV11 dc11 pm11 an11 cd11 ct11), sl11⟩)
    (c11 : PySem.W.codeIn K cd11 "parts_of" = true)
    (k11 : PySem.W.keepIn K (.ref q11) = true)
    (a12 : PySem.W.nsIn K mainGlobals "work_of" = some (some (.ref q12)))
    (l12 : K.lookup q12 = some ⟨oc12, od12, .func (PySem.W.fnOf "work_of" "work_of" (defArgs sWorkOf) (defBody sWorkOf) (defScope sWorkOf) .none kV12 dc12 pm12 an12 cd12 ct12), sl12⟩)
    (c12 : PySem.W.codeIn K cd12 "work_of" = true)
    (k12 : PySem.W.keepIn K (.ref q12) = true)
    (a13 : PySem.W.nsIn K mainGlobals "_law_cell_at" = some (some (.ref q13)))
    (l13 : K.lookup q13 = some ⟨oc13, od13, .func (PySem.W.fnOf "_law_cell_at" "_law_cell_at" (defArgs sLawCellAt) (defBody sLawCellAt) (defScope sLawCellAt) .none kV13 dc13 pm13 an13 cd13 ct13), sl13⟩)
    (c13 : PySem.W.codeIn K cd13 "_law_cell_at" = true)
    (k13 : PySem.W.keepIn K (.ref q13) = true)
    (a14 : PySem.W.nsIn K mainGlobals "_law_numbers" = some (some (.ref q14)))
    (l14 : K.lookup q14 = some ⟨oc14, od14, .func (PySem.W.fnOf "_law_numbers" "_law_numbers" (defArgs sLawNumbers) (defBody sLawNumbers) (defScope sLawNumbers) .none kV14 dc14 pm14 an14 cd14 ct14), sl14⟩)
    (c14 : PySem.W.codeIn K cd14 "_law_numbers" = true)
    (k14 : PySem.W.keepIn K (.ref q14) = true)
    (a15 : PySem.W.nsIn K mainGlobals "_law_names" = some (some (.ref q15)))
    (l15 : K.lookup q15 = some ⟨oc15, od15, .func (PySem.W.fnOf "_law_names" "_law_names" (defArgs sLawNames) (defBody sLawNames) (defScope sLawNames) .none kV15 dc15 pm15 an15 cd15 ct15), sl15⟩)
    (c15 : PySem.W.codeIn K cd15 "_law_names" = true)
    (k15 : PySem.W.keepIn K (.ref q15) = true)
    (a16 : PySem.W.nsIn K mainGlobals "_law_work" = some (some (.ref q16)))
    (l16 : K.lookup q16 = some ⟨oc16, od16, .func (PySem.W.fnOf "_law_work" "_law_work" (defArgs sLawWork) (defBody sLawWork) (defScope sLawWork) .none kV16 dc16 pm16 an16 cd16 ct16), sl16⟩)
    (c16 : PySem.W.codeIn K cd16 "_law_work" = true)
    (k16 : PySem.W.keepIn K (.ref q16) = true)
    (a17 : PySem.W.nsIn K mainGlobals "_law_plan" = some (some (.ref q17)))
    (l17 : K.lookup q17 = some ⟨oc17, od17, .func (PySem.W.fnOf "_law_plan" "_law_plan" (defArgs sLawPlan) (defBody sLawPlan) (defScope sLawPlan) .none kV17 dc17 pm17 an17 cd17 ct17), sl17⟩)
    (c17 : PySem.W.codeIn K cd17 "_law_plan" = true)
    (k17 : PySem.W.keepIn K (.ref q17) = true)
    (a18 : PySem.W.nsIn K mainGlobals "_law_all" = some (some (.ref q18)))
    (l18 : K.lookup q18 = some ⟨oc18, od18, .func (PySem.W.fnOf "_law_all" "_law_all" (defArgs sLawAll) (defBody sLawAll) (defScope sLawAll) .none kV18 dc18 pm18 an18 cd18 ct18), sl18⟩)
    (c18 : PySem.W.codeIn K cd18 "_law_all" = true)
    (k18 : PySem.W.keepIn K (.ref q18) = true)
    (a19 : PySem.W.nsIn K mainGlobals "_law_right" = some (some (.ref q19)))
    (l19 : K.lookup q19 = some ⟨oc19, od19, .func (PySem.W.fnOf "_law_right" "_law_right" (defArgs sLawRight) (defBody sLawRight) (defScope sLawRight) .none kV19 dc19 pm19 an19 cd19 ct19), sl19⟩)
    (c19 : PySem.W.codeIn K cd19 "_law_right" = true)
    (k19 : PySem.W.keepIn K (.ref q19) = true)
    (a20 : PySem.W.nsIn K mainGlobals "_law_made_of" = some (some (.ref q20)))
    (l20 : K.lookup q20 = some ⟨oc20, od20, .func (PySem.W.fnOf "_law_made_of" "_law_made_of" (defArgs sLawMadeOf) (defBody sLawMadeOf) (defScope sLawMadeOf) .none kV20 dc20 pm20 an20 cd20 ct20), sl20⟩)
    (c20 : PySem.W.codeIn K cd20 "_law_made_of" = true)
    (k20 : PySem.W.keepIn K (.ref q20) = true)
    (a21 : PySem.W.nsIn K mainGlobals "law" = some (some (.ref q21)))
    (l21 : K.lookup q21 = some ⟨oc21, od21, .func (PySem.W.fnOf "law" "law" (defArgs sLaw) (defBody sLaw) (defScope sLaw) .none kV21 dc21 pm21 an21 cd21 ct21), sl21⟩)
    (c21 : PySem.W.codeIn K cd21 "law" = true)
    (k21 : PySem.W.keepIn K (.ref q21) = true)
    (a22 : PySem.W.findIn K (.ref cL) "name" = some (some (.ref q22)))
    (l22 : K.lookup q22 = some ⟨oc22, od22, .func (PySem.W.fnOf "name" "Leaf.name" (defArgs sLeafName) (defBody sLeafName) (defScope sLeafName) .none kV22 dc22 pm22 an22 cd22 ct22), sl22⟩)
    (c22 : PySem.W.codeIn K cd22 "Leaf.name" = true)
    (k22 : PySem.W.keepIn K (.ref q22) = true)
    (i22 : PySem.W.isFn K (.ref q22) = true)
    (a23 : PySem.W.findIn K (.ref cL) "names" = some (some (.ref q23)))
    (l23 : K.lookup q23 = some ⟨oc23, od23, .func (PySem.W.fnOf "names" "Leaf.names" (defArgs sLeafNames) (defBody sLeafNames) (defScope sLeafNames) .none kV23 dc23 pm23 an23 cd23 ct23), sl23⟩)
    (c23 : PySem.W.codeIn K cd23 "Leaf.names" = true)
    (k23 : PySem.W.keepIn K (.ref q23) = true)
    (i23 : PySem.W.isFn K (.ref q23) = true)
    (a24 : PySem.W.findIn K (.ref cL) "steps" = some (some (.ref q24)))
    (l24 : K.lookup q24 = some ⟨oc24, od24, .func (PySem.W.fnOf "steps" "Leaf.steps" (defArgs sLeafSteps) (defBody sLeafSteps) (defScope sLeafSteps) .none kV24 dc24 pm24 an24 cd24 ct24), sl24⟩)
    (c24 : PySem.W.codeIn K cd24 "Leaf.steps" = true)
    (k24 : PySem.W.keepIn K (.ref q24) = true)
    (i24 : PySem.W.isFn K (.ref q24) = true)
    (a25 : PySem.W.findIn K (.ref cL) "parts" = some (some (.ref q25)))
    (l25 : K.lookup q25 = some ⟨oc25, od25, .func (PySem.W.fnOf "parts" "Leaf.parts" (defArgs sLeafParts) (defBody sLeafParts) (defScope sLeafParts) .none kV25 dc25 pm25 an25 cd25 ct25), sl25⟩)
    (c25 : PySem.W.codeIn K cd25 "Leaf.parts" = true)
    (k25 : PySem.W.keepIn K (.ref q25) = true)
    (i25 : PySem.W.isFn K (.ref q25) = true)
    (a26 : PySem.W.findIn K (.ref cR) "name" = some (some (.ref q26)))
    (l26 : K.lookup q26 = some ⟨oc26, od26, .func (PySem.W.fnOf "name" "Row.name" (defArgs sRowName) (defBody sRowName) (defScope sRowName) .none kV26 dc26 pm26 an26 cd26 ct26), sl26⟩)
    (c26 : PySem.W.codeIn K cd26 "Row.name" = true)
    (k26 : PySem.W.keepIn K (.ref q26) = true)
    (i26 : PySem.W.isFn K (.ref q26) = true)
    (a27 : PySem.W.findIn K (.ref cR) "names" = some (some (.ref q27)))
    (l27 : K.lookup q27 = some ⟨oc27, od27, .func (PySem.W.fnOf "names" "Row.names" (defArgs sRowNames) (defBody sRowNames) (defScope sRowNames) .none kV27 dc27 pm27 an27 cd27 ct27), sl27⟩)
    (c27 : PySem.W.codeIn K cd27 "Row.names" = true)
    (k27 : PySem.W.keepIn K (.ref q27) = true)
    (i27 : PySem.W.isFn K (.ref q27) = true)
    (a28 : PySem.W.findIn K (.ref cR) "steps" = some (some (.ref q28)))
    (l28 : K.lookup q28 = some ⟨oc28, od28, .func (PySem.W.fnOf "steps" "Row.steps" (defArgs sRowSteps) (defBody sRowSteps) (defScope sRowSteps) .none kV28 dc28 pm28 an28 cd28 ct28), sl28⟩)
    (c28 : PySem.W.codeIn K cd28 "Row.steps" = true)
    (k28 : PySem.W.keepIn K (.ref q28) = true)
    (i28 : PySem.W.isFn K (.ref q28) = true)
    (a29 : PySem.W.findIn K (.ref cR) "parts" = some (some (.ref q29)))
    (l29 : K.lookup q29 = some ⟨oc29, od29, .func (PySem.W.fnOf "parts" "Row.parts" (defArgs sRowParts) (defBody sRowParts) (defScope sRowParts) .none kV29 dc29 pm29 an29 cd29 ct29), sl29⟩)
    (c29 : PySem.W.codeIn K cd29 "Row.parts" = true)
    (k29 : PySem.W.keepIn K (.ref q29) = true)
    (i29 : PySem.W.isFn K (.ref q29) = true)
    (a30 : PySem.W.findIn K (.ref cB) "name" = some (some (.ref q30)))
    (l30 : K.lookup q30 = some ⟨oc30, od30, .func (PySem.W.fnOf "name" "Bundle.name" (defArgs sBundleName) (defBody sBundleName) (defScope sBundleName) .none kV30 dc30 pm30 an30 cd30 ct30), sl30⟩)
    (c30 : PySem.W.codeIn K cd30 "Bundle.name" = true)
    (k30 : PySem.W.keepIn K (.ref q30) = true)
    (i30 : PySem.W.isFn K (.ref q30) = true)
    (a31 : PySem.W.findIn K (.ref cB) "names" = some (some (.ref q31)))
    (l31 : K.lookup q31 = some ⟨oc31, od31, .func (PySem.W.fnOf "names" "Bundle.names" (defArgs sBundleNames) (defBody sBundleNames) (defScope sBundleNames) .none kV31 dc31 pm31 an31 cd31 ct31), sl31⟩)
    (c31 : PySem.W.codeIn K cd31 "Bundle.names" = true)
    (k31 : PySem.W.keepIn K (.ref q31) = true)
    (i31 : PySem.W.isFn K (.ref q31) = true)
    (a32 : PySem.W.findIn K (.ref cB) "steps" = some (some (.ref q32)))
    (l32 : K.lookup q32 = some ⟨oc32, od32, .func (PySem.W.fnOf "steps" "Bundle.steps" (defArgs sBundleSteps) (defBody sBundleSteps) (defScope sBundleSteps) .none kV32 dc32 pm32 an32 cd32 ct32), sl32⟩)
    (c32 : PySem.W.codeIn K cd32 "Bundle.steps" = true)
    (k32 : PySem.W.keepIn K (.ref q32) = true)
    (i32 : PySem.W.isFn K (.ref q32) = true)
    (a33 : PySem.W.findIn K (.ref cB) "parts" = some (some (.ref q33)))
    (l33 : K.lookup q33 = some ⟨oc33, od33, .func (PySem.W.fnOf "parts" "Bundle.parts" (defArgs sBundleParts) (defBody sBundleParts) (defScope sBundleParts) .none kV33 dc33 pm33 an33 cd33 ct33), sl33⟩)
    (c33 : PySem.W.codeIn K cd33 "Bundle.parts" = true)
    (k33 : PySem.W.keepIn K (.ref q33) = true)
    (i33 : PySem.W.isFn K (.ref q33) = true)
    (a34 : PySem.W.findIn K (.ref cR) "__init__" = some (some (.ref q34)))
    (l34 : K.lookup q34 = some ⟨oc34, od34, .func (PySem.W.fnOf "__init__" "Row.__init__" (defArgs sRowInit) (defBody sRowInit) (defScope sRowInit) .none kV34 dc34 pm34 an34 cd34 ct34), sl34⟩)
    (c34 : PySem.W.codeIn K cd34 "Row.__init__" = true)
    (k34 : PySem.W.keepIn K (.ref q34) = true)
    (i34 : PySem.W.isFn K (.ref q34) = true)
    (a35 : PySem.W.findIn K (.ref cB) "__init__" = some (some (.ref q35)))
    (l35 : K.lookup q35 = some ⟨oc35, od35, .func (PySem.W.fnOf "__init__" "Bundle.__init__" (defArgs sBundleInit) (defBody sBundleInit) (defScope sBundleInit) .none kV35 dc35 pm35 an35 cd35 ct35), sl35⟩)
    (c35 : PySem.W.codeIn K cd35 "Bundle.__init__" = true)
    (k35 : PySem.W.keepIn K (.ref q35) = true)
    (i35 : PySem.W.isFn K (.ref q35) = true)
    (a36 : PySem.W.findIn K (.ref cL) "__init__" = some (some (.ref q36)))
    (l36 : K.lookup q36 = some ⟨oc36, od36, .func (PySem.W.fnOf "__init__" "Leaf.__init__" (defArgs sLeafInit) (defBody sLeafInit) (defScope sLeafInit) (.ref dT) kV36 dc36 pm36 an36 cd36 ct36), sl36⟩)
    (c36 : PySem.W.codeIn K cd36 "Leaf.__init__" = true)
    (k36 : PySem.W.keepIn K (.ref q36) = true)
    (i36 : PySem.W.isFn K (.ref q36) = true)
    (lT : K.lookup dT = some ⟨oT, dd, .seq ([.none] : List Value).toArray nT, slT⟩)
    (mL : PySem.W.nsIn K mainGlobals "Leaf" = some (some (.ref cL)))
    (pgL : PySem.W.plainGet K cL Str.empty = true)
    (hdL : PySem.W.hasDictIn K cL = true)
    (poL : PySem.W.plainOver K cL = true)
    (saL : PySem.W.findIn K (.ref cL) "__setattr__" = some (some (.builtin "object.__setattr__")))
    (mkL : PySem.W.makesIn K cL = true)
    (kcL : PySem.W.keepIn K (.ref cL) = true)
    (caL : PySem.W.findIn K (.ref cL) "__class__" = some (some (.builtin "object.__class__")))
    (moL : PySem.W.mroIn K cL (.type "object") = some true)
    (ntL : PySem.W.findIn K (.ref cL) "_tree" = some none)
    (mR : PySem.W.nsIn K mainGlobals "Row" = some (some (.ref cR)))
    (pgR : PySem.W.plainGet K cR Str.empty = true)
    (hdR : PySem.W.hasDictIn K cR = true)
    (poR : PySem.W.plainOver K cR = true)
    (saR : PySem.W.findIn K (.ref cR) "__setattr__" = some (some (.builtin "object.__setattr__")))
    (mkR : PySem.W.makesIn K cR = true)
    (kcR : PySem.W.keepIn K (.ref cR) = true)
    (caR : PySem.W.findIn K (.ref cR) "__class__" = some (some (.builtin "object.__class__")))
    (moR : PySem.W.mroIn K cR (.type "object") = some true)
    (ntR : PySem.W.findIn K (.ref cR) "_tree" = some none)
    (mB : PySem.W.nsIn K mainGlobals "Bundle" = some (some (.ref cB)))
    (pgB : PySem.W.plainGet K cB Str.empty = true)
    (hdB : PySem.W.hasDictIn K cB = true)
    (poB : PySem.W.plainOver K cB = true)
    (saB : PySem.W.findIn K (.ref cB) "__setattr__" = some (some (.builtin "object.__setattr__")))
    (mkB : PySem.W.makesIn K cB = true)
    (kcB : PySem.W.keepIn K (.ref cB) = true)
    (caB : PySem.W.findIn K (.ref cB) "__class__" = some (some (.builtin "object.__class__")))
    (moB : PySem.W.mroIn K cB (.type "object") = some true)
    (ntB : PySem.W.findIn K (.ref cB) "_tree" = some none)
    (mW : PySem.W.nsIn K mainGlobals "Work" = some (some (.ref cW)))
    (hn : PySem.W.specialIn K (.builtin "object.__class__") "__get__" = some (some (.builtin "getset_descriptor.__get__")))
    (htk : PySem.W.takesIn K (.builtin "object.__class__") = some true)
    (co_letters : PySem.W.nsIn K mainGlobals "MOST_LETTERS" = some (some (.int 8 tk_letters)))
    (co_steps : PySem.W.nsIn K mainGlobals "MOST_STEPS" = some (some (.int 1000 tk_steps)))
    (co_weight : PySem.W.nsIn K mainGlobals "MOST_WEIGHT" = some (some (.int 100 tk_weight)))
    (co_parts : PySem.W.nsIn K mainGlobals "MOST_PARTS" = some (some (.int 6 tk_parts)))
    (co_works : PySem.W.nsIn K mainGlobals "MOST_WORKS" = some (some (.int 20 tk_works)))
    (co_within : PySem.W.nsIn K mainGlobals "MOST_WITHIN" = some (some (.int 5 tk_within)))
    (co_leaf : PySem.W.nsIn K mainGlobals "LEAF" = some (some (.str "leaf" tk_leaf)))
    (co_row : PySem.W.nsIn K mainGlobals "ROW" = some (some (.str "row" tk_row)))
    (co_bundle : PySem.W.nsIn K mainGlobals "BUNDLE" = some (some (.str "bundle" tk_bundle)))
    (z_isinstance : PySem.W.nsIn K mainGlobals "isinstance" = some none)
    (z_int : PySem.W.nsIn K mainGlobals "int" = some none)
    (z_bool : PySem.W.nsIn K mainGlobals "bool" = some none)
    (z_str : PySem.W.nsIn K mainGlobals "str" = some none)
    (z_list : PySem.W.nsIn K mainGlobals "list" = some none)
    (z_tuple : PySem.W.nsIn K mainGlobals "tuple" = some none)
    (z_dict : PySem.W.nsIn K mainGlobals "dict" = some none)
    (z_len : PySem.W.nsIn K mainGlobals "len" = some none)
    (z_all : PySem.W.nsIn K mainGlobals "all" = some none)
    (z_any : PySem.W.nsIn K mainGlobals "any" = some none)
    (z_set : PySem.W.nsIn K mainGlobals "set" = some none)
    (z_max : PySem.W.nsIn K mainGlobals "max" = some none)
    (z_min : PySem.W.nsIn K mainGlobals "min" = some none)
    (z_range : PySem.W.nsIn K mainGlobals "range" = some none)
    (z_zip : PySem.W.nsIn K mainGlobals "zip" = some none)
    (z_sum : PySem.W.nsIn K mainGlobals "sum" = some none)
    (z_sorted : PySem.W.nsIn K mainGlobals "sorted" = some none)
    (z_abs : PySem.W.nsIn K mainGlobals "abs" = some none)
    (z_enumerate : PySem.W.nsIn K mainGlobals "enumerate" = some none)
    (nl1 : K.lookup T1 = none)
    (nl2 : K.lookup T2 = none)
    (lc1 : K.lookup cc1 = some ⟨oc_1, od_1, .fields vs_1, sl_1⟩)
    (vc1 : (vs_1[11]? : Option Value) = some (.ref T1))
    (lc2 : K.lookup cc2 = some ⟨oc_2, od_2, .fields vs_2, sl_2⟩)
    (vc2 : (vs_2[11]? : Option Value) = some (.ref T2))
    (icL : PySem.W.clsIn K cL = some ic_L)
    (itL : PySem.W.typeIn K (.ref cL) = some (.type "type"))
    (icR : PySem.W.clsIn K cR = some ic_R)
    (itR : PySem.W.typeIn K (.ref cR) = some (.type "type"))
    (icB : PySem.W.clsIn K cB = some ic_B)
    (itB : PySem.W.typeIn K (.ref cB) = some (.type "type"))
    (icW : PySem.W.clsIn K cW = some ic_W)
    (itW : PySem.W.typeIn K (.ref cW) = some (.type "type"))
    (suLR : PySem.W.subIn K (.ref cL) (.ref cR) = some false)
    (neLR : (Value.ref cL == Value.ref cR) = false)
    (suLB : PySem.W.subIn K (.ref cL) (.ref cB) = some false)
    (neLB : (Value.ref cL == Value.ref cB) = false)
    (suLW : PySem.W.subIn K (.ref cL) (.ref cW) = some true)
    (neLW : (Value.ref cL == Value.ref cW) = false)
    (suRL : PySem.W.subIn K (.ref cR) (.ref cL) = some false)
    (neRL : (Value.ref cR == Value.ref cL) = false)
    (suRB : PySem.W.subIn K (.ref cR) (.ref cB) = some false)
    (neRB : (Value.ref cR == Value.ref cB) = false)
    (suRW : PySem.W.subIn K (.ref cR) (.ref cW) = some true)
    (neRW : (Value.ref cR == Value.ref cW) = false)
    (suBL : PySem.W.subIn K (.ref cB) (.ref cL) = some false)
    (neBL : (Value.ref cB == Value.ref cL) = false)
    (suBR : PySem.W.subIn K (.ref cB) (.ref cR) = some false)
    (neBR : (Value.ref cB == Value.ref cR) = false)
    (suBW : PySem.W.subIn K (.ref cB) (.ref cW) = some true)
    (neBW : (Value.ref cB == Value.ref cW) = false) :
    ∃ cc1 T1 cc2 T2 : Addr, PySem.W.tabIn K "is_name" = some (cc1, T1) ∧ PySem.W.tabIn K "elder_tree" = some (cc2, T2) ∧ K.lookup T1 = none ∧ K.lookup T2 = none ∧
    ∃ fd : FuncData, (∀ (s : Shared) (v : Value), BindsTo s fd ⟨[v], []⟩ [("_law_script", v)]) ∧ ∀ base : Heap, K.In base → base.Ns mainGlobals mg → GxR.TabB base mg cc1 T1 → GxR.TabB base mg cc2 T2 → FnOk l.prog w K mg base CX0 26 fa fd ["_law_script"] (spLaw K T1 T2) := by
  have tb1 : PySem.W.tabIn K "is_name" = some (cc1, T1) := tab_mk a0 l0 rfl lc1 vc1
  have tb2 : PySem.W.tabIn K "elder_tree" = some (cc2, T2) := tab_mk a10 l10 rfl lc2 vc2
  have k1LL : PySem.W.kitOne K (.ref cL) (.ref cL) = some true := kit_same
  have k1LR : PySem.W.kitOne K (.ref cL) (.ref cR) = some false := kit_two neLR icR itR suLR
  have k1LB : PySem.W.kitOne K (.ref cL) (.ref cB) = some false := kit_two neLB icB itB suLB
  have kwL : PySem.W.kitOne K (.ref cL) (.ref cW) = some true := kit_two neLW icW itW suLW
  have k1RL : PySem.W.kitOne K (.ref cR) (.ref cL) = some false := kit_two neRL icL itL suRL
  have k1RR : PySem.W.kitOne K (.ref cR) (.ref cR) = some true := kit_same
  have k1RB : PySem.W.kitOne K (.ref cR) (.ref cB) = some false := kit_two neRB icB itB suRB
  have kwR : PySem.W.kitOne K (.ref cR) (.ref cW) = some true := kit_two neRW icW itW suRW
  have k1BL : PySem.W.kitOne K (.ref cB) (.ref cL) = some false := kit_two neBL icL itL suBL
  have k1BR : PySem.W.kitOne K (.ref cB) (.ref cR) = some false := kit_two neBR icR itR suBR
  have k1BB : PySem.W.kitOne K (.ref cB) (.ref cB) = some true := kit_same
  have kwB : PySem.W.kitOne K (.ref cB) (.ref cW) = some true := kit_two neBW icW itW suBW
  have kaL : PySem.W.kitAny K (.ref cL) [.ref cL, .ref cR, .ref cB] = some true := kit_any1 k1LL
  have kaR : PySem.W.kitAny K (.ref cR) [.ref cL, .ref cR, .ref cB] = some true := kit_any0 k1RL (kit_any1 k1RR)
  have kaB : PySem.W.kitAny K (.ref cB) [.ref cL, .ref cR, .ref cB] = some true := kit_any0 k1BL (kit_any0 k1BR (kit_any1 k1BB))
  exact ⟨cc1, T1, cc2, T2, tb1, tb2, nl1, nl2, all_mk (l := l) (w := w) (c := ⟨cW, cL, cR, cB⟩) X G hfa a0 l0 c0 k0 a1 l1 c1 k1 a2 l2 c2 k2 a3 l3 lTn c3 k3 a4 l4 c4 k4 a5 l5 c5 k5 a6 l6 c6 k6 a7 l7 c7 k7 a8 l8 c8 k8 a9 l9 c9 k9 a99 l99 c99 k99 a10 l10 c10 k10 a11 l11 c11 k11 a12 l12 c12 k12 a13 l13 c13 k13 a14 l14 c14 k14 a15 l15 c15 k15 a16 l16 c16 k16 a17 l17 c17 k17 a18 l18 c18 k18 a19 l19 c19 k19 a20 l20 c20 k20 a21 l21 c21 k21 a22 l22 c22 k22 i22 a23 l23 c23 k23 i23 a24 l24 c24 k24 i24 a25 l25 c25 k25 i25 a26 l26 c26 k26 i26 a27 l27 c27 k27 i27 a28 l28 c28 k28 i28 a29 l29 c29 k29 i29 a30 l30 c30 k30 i30 a31 l31 c31 k31 i31 a32 l32 c32 k32 i32 a33 l33 c33 k33 i33 a34 l34 c34 k34 i34 a35 l35 c35 k35 i35 a36 l36 c36 k36 i36 lT mL pgL hdL poL saL mkL kcL caL moL ntL kaL kwL k1LL k1LR k1LB mR pgR hdR poR saR mkR kcR caR moR ntR kaR kwR k1RL k1RR k1RB mB pgB hdB poB saB mkB kcB caB moB ntB kaB kwB k1BL k1BR k1BB mW hn htk co_letters co_steps co_weight co_parts co_works co_within co_leaf co_row co_bundle z_isinstance z_int z_bool z_str z_list z_tuple z_dict z_len z_all z_any z_set z_max z_min z_range z_zip z_sum z_sorted z_abs z_enumerate tb1 tb2 nl1 nl2⟩
section
open PySem.Spec PyProof.Rows
theorem walk {l : PySem.W.OpenLaw} {q : Program} {loose : List Str} {XP : (Str → Option Value) → Heap → Prop} {YP : World → Heap → Prop} {d d1 d2 : DefRec} {K : Params → PySem.W.Frag} (hn : l.most = some 63) (hdf : d.params.defaults = [])
    (hY : ∀ (w : World) (h : Heap), YP w h → (K w.params).In h) (r1 : (recsOf q).find? (fun e => e.name == ("is_name" : Str)) = some d1) (r2 : (recsOf q).find? (fun e => e.name == ("elder_tree" : Str)) = some d2)
    (F : ∀ (w : World) (mg : Str → Option Value) (fa : Addr) (h : Heap), (K w.params).In h → h.Ns mainGlobals mg → mg d.name = some (.ref fa) →
      ∃ cc1 T1 cc2 T2 : Addr, PySem.W.tabIn (K w.params) "is_name" = some (cc1, T1) ∧ PySem.W.tabIn (K w.params) "elder_tree" = some (cc2, T2) ∧ (K w.params).lookup T1 = none ∧ (K w.params).lookup T2 = none ∧
      ∃ fd : FuncData, (∀ (s : Shared) (v : Value), BindsTo s fd ⟨[v], []⟩ [("_law_script", v)]) ∧ ∀ base : Heap, (K w.params).In base → base.Ns mainGlobals mg → GxR.TabB base mg cc1 T1 → GxR.TabB base mg cc2 T2 → FnOk l.prog w (K w.params) mg base CX0 26 fa fd ["_law_script"] (spLaw (K w.params) T1 T2)) :
    PySem.W.WalkO q loose XP YP l.row.toRowW d [] (fun f vs => PySem.call f vs) := by
  refine Att.attach_callB hn hdf fun w s0 s1 mg mb fa o pm cd doc a vs ns G Y ho hd hcd hmg hobj hints hlen hbits hg => ?_
  have KX := hY w _ Y
  obtain ⟨cc1, T1, cc2, T2, t1, t2, n1, n2, fd, hb, hF⟩ := F w mg fa _ KX G.T.g hmg
  obtain ⟨e1, e2⟩ := PySem.W.tab_of G.T KX r1 t1
  obtain ⟨e3, e4⟩ := PySem.W.tab_of G.T KX r2 t2
  have each : ∀ {R : Addr × Addr → Prop}, R (cc1, T1) → R (cc2, T2) → ∀ p ∈ [(cc1, T1), (cc2, T2)], R p := fun a b p hp => by
    rcases List.mem_cons.mp hp with rfl | hp
    · exact a
    · rw [List.mem_singleton.mp hp]
      exact b
  exact LamX.law_callTs (k := 26) (CX := CX0) (cs := [(cc1, T1), (cc2, T2)]) (sp := spLaw (K w.params) T1 T2) KX G.T.g G.T.b G.T.builtins G.T.nolimit hg (each e2 e4) (each n1 n2) (each e1 e3) G.T.bmain hobj hints (Nat.le_trans hlen (by decide)) ⟨rfl, by decide, by decide⟩
    (fun base kb gb tb => hF base kb gb (let t := tb (cc1, T1) List.mem_cons_self; ⟨t.code, t.bm, t.gP⟩) (let t := tb (cc2, T2) (List.mem_cons_of_mem _ List.mem_cons_self); ⟨t.code, t.bm, t.gP⟩)) hb
    (fun H hH hS => ⟨a, ns, rfl, hS, hlen, ⟨#[], hH (cc1, T1) List.mem_cons_self, trivial⟩, ⟨#[], hH (cc2, T2) (List.mem_cons_of_mem _ List.mem_cons_self), trivial⟩, fun _ => rfl⟩) fun H e s' z => z
end
end Hf
open PySem PySem.W PyProof.Rows
set_option Elab.async false
set_option maxRecDepth 100000 in
set_option maxHeartbeats 0 in
theorem PySem.Challenge.cw_howfar_k01_works_holds : PySem.Challenge.rw_howfar_k01_works.Holds := by
  w_on; o_law; k_head; (case hw => w_witness2)
  k_fill
  refine Hf.walk (l := PySem.Challenge.rw_howfar_k01_works) rfl rfl (fun w h Y => PySem.W.kIn_of Y) rfl rfl ?F
  case F =>
    intro w mg fa h KX G hmg
    refine' Hf.all_mk2 KX G hmg ?a0 ?l0 ?c0 ?k0 ?a1 ?l1 ?c1 ?k1 ?a2 ?l2 ?c2 ?k2 ?a3 ?l3 ?lTn ?c3 ?k3 ?a4 ?l4 ?c4 ?k4 ?a5 ?l5 ?c5 ?k5 ?a6 ?l6 ?c6 ?k6 ?a7 ?l7 ?c7 ?k7 ?a8 ?l8 ?c8 ?k8 ?a9 ?l9 ?c9 ?k9 ?a99 ?l99 ?c99 ?k99 ?a10 ?l10 ?c10 ?k10 ?a11 ?l11 ?c11 ?k11 ?a12 ?l12 ?c12 ?k12 ?a13 ?l13 ?c13 ?k13 ?a14 ?l14 ?c14 ?k14 ?a15 ?l15 ?c15 ?k15 ?a16 ?l16 ?c16 ?k16 ?a17 ?l17 ?c17 ?k17 ?a18 ?l18 ?c18 ?k18 ?a19 ?l19 ?c19 ?k19 ?a20 ?l20 ?c20 ?k20 ?a21 ?l21 ?c21 ?k21 ?a22 ?l22 ?c22 ?k22 ?i22 ?a23 ?l23 ?c23 ?k23 ?i23 ?a24 ?l24 ?c24 ?k24 ?i24 ?a25 ?l25 ?c25 ?k25 ?i25 ?a26 ?l26 ?c26 ?k26 ?i26 ?a27 ?l27 ?c27 ?k27 ?i27 ?a28 ?l28 ?c28 ?k28 ?i28 ?a29 ?l29 ?c29 ?k29 ?i29 ?a30 ?l30 ?c30 ?k30 ?i30 ?a31 ?l31 ?c31 ?k31 ?i31 ?a32 ?l32 ?c32 ?k32 ?i32 ?a33 ?l33 ?c33 ?k33 ?i33 ?a34 ?l34 ?c34 ?k34 ?i34 ?a35 ?l35 ?c35 ?k35 ?i35 ?a36 ?l36 ?c36 ?k36 ?i36 ?lT ?mL ?pgL ?hdL ?poL ?saL ?mkL ?kcL ?caL ?moL ?ntL ?mR ?pgR ?hdR ?poR ?saR ?mkR ?kcR ?caR ?moR ?ntR ?mB ?pgB ?hdB ?poB ?saB ?mkB ?kcB ?caB ?moB ?ntB ?mW ?hn ?htk ?co_letters ?co_steps ?co_weight ?co_parts ?co_works ?co_within ?co_leaf ?co_row ?co_bundle ?z_isinstance ?z_int ?z_bool ?z_str ?z_list ?z_tuple ?z_dict ?z_len ?z_all ?z_any ?z_set ?z_max ?z_min ?z_range ?z_zip ?z_sum ?z_sorted ?z_abs ?z_enumerate ?nl1 ?nl2 ?lc1 ?vc1 ?lc2 ?vc2 ?icL ?itL ?icR ?itR ?icB ?itB ?icW ?itW ?suLR ?neLR ?suLB ?neLB ?suLW ?neLW ?suRL ?neRL ?suRB ?neRB ?suRW ?neRW ?suBL ?neBL ?suBR ?neBR ?suBW ?neBW
    (case mW => k_is)
    (case mL => k_is)
    (case mR => k_is)
    (case mB => k_is)
    (case a0 => k_is)
    (case a10 => k_is)
    (case l0 => k_is)
    (case l10 => k_is)
    (case lc1 => k_is)
    (case vc1 => rfl)
    (case lc2 => k_is)
    (case vc2 => rfl)
    (case nl1 => rfl)
    (case nl2 => rfl)
    (case c0 => k_is)
    (case k0 => k_is)
    (case a1 => k_is)
    (case l1 => k_is)
    (case c1 => k_is)
    (case k1 => k_is)
    (case a2 => k_is)
    (case l2 => k_is)
    (case c2 => k_is)
    (case k2 => k_is)
    (case a3 => k_is)
    (case l3 => k_is)
    (case lTn => k_is)
    (case c3 => k_is)
    (case k3 => k_is)
    (case a4 => k_is)
    (case l4 => k_is)
    (case c4 => k_is)
    (case k4 => k_is)
    (case a5 => k_is)
    (case l5 => k_is)
    (case c5 => k_is)
    (case k5 => k_is)
    (case a6 => k_is)
    (case l6 => k_is)
    (case c6 => k_is)
    (case k6 => k_is)
    (case a7 => k_is)
    (case l7 => k_is)
    (case c7 => k_is)
    (case k7 => k_is)
    (case a8 => k_is)
    (case l8 => k_is)
    (case c8 => k_is)
    (case k8 => k_is)
    (case a9 => k_is)
    (case a99 => k_is)
    (case l9 => k_is)
    (case l99 => k_is)
    (case c9 => k_is)
    (case c99 => k_is)
    (case k9 => k_is)
    (case k99 => k_is)
    (case c10 => k_is)
    (case k10 => k_is)
    (case a11 => k_is)
    (case l11 => k_is)
    (case c11 => k_is)
    (case k11 => k_is)
    (case a12 => k_is)
    (case l12 => k_is)
    (case c12 => k_is)
    (case k12 => k_is)
    (case a13 => k_is)
    (case l13 => k_is)
    (case c13 => k_is)
    (case k13 => k_is)
    (case a14 => k_is)
    (case l14 => k_is)
    (case c14 => k_is)
    (case k14 => k_is)
    (case a15 => k_is)
    (case l15 => k_is)
    (case c15 => k_is)
    (case k15 => k_is)
    (case a16 => k_is)
    (case l16 => k_is)
    (case c16 => k_is)
    (case k16 => k_is)
    (case a17 => k_is)
    (case l17 => k_is)
    (case c17 => k_is)
    (case k17 => k_is)
    (case a18 => k_is)
    (case l18 => k_is)
    (case c18 => k_is)
    (case k18 => k_is)
    (case a19 => k_is)
    (case l19 => k_is)
    (case c19 => k_is)
    (case k19 => k_is)
    (case a20 => k_is)
    (case l20 => k_is)
    (case c20 => k_is)
    (case k20 => k_is)
    (case a21 => k_is)
    (case l21 => k_is)
    (case c21 => k_is)
    (case k21 => k_is)
    (case a22 => k_is)
    (case l22 => k_is)
    (case c22 => k_is)
    (case k22 => k_is)
    (case i22 => k_is)
    (case a23 => k_is)
    (case l23 => k_is)
    (case c23 => k_is)
    (case k23 => k_is)
    (case i23 => k_is)
    (case a24 => k_is)
    (case l24 => k_is)
    (case c24 => k_is)
    (case k24 => k_is)
    (case i24 => k_is)
    (case a25 => k_is)
    (case l25 => k_is)
    (case c25 => k_is)
    (case k25 => k_is)
    (case i25 => k_is)
    (case a26 => k_is)
    (case l26 => k_is)
    (case c26 => k_is)
    (case k26 => k_is)
    (case i26 => k_is)
    (case a27 => k_is)
    (case l27 => k_is)
    (case c27 => k_is)
    (case k27 => k_is)
    (case i27 => k_is)
    (case a28 => k_is)
    (case l28 => k_is)
    (case c28 => k_is)
    (case k28 => k_is)
    (case i28 => k_is)
    (case a29 => k_is)
    (case l29 => k_is)
    (case c29 => k_is)
    (case k29 => k_is)
    (case i29 => k_is)
    (case a30 => k_is)
    (case l30 => k_is)
    (case c30 => k_is)
    (case k30 => k_is)
    (case i30 => k_is)
    (case a31 => k_is)
    (case l31 => k_is)
    (case c31 => k_is)
    (case k31 => k_is)
    (case i31 => k_is)
    (case a32 => k_is)
    (case l32 => k_is)
    (case c32 => k_is)
    (case k32 => k_is)
    (case i32 => k_is)
    (case a33 => k_is)
    (case l33 => k_is)
    (case c33 => k_is)
    (case k33 => k_is)
    (case i33 => k_is)
    (case a34 => k_is)
    (case l34 => k_is)
    (case c34 => k_is)
    (case k34 => k_is)
    (case i34 => k_is)
    (case a35 => k_is)
    (case l35 => k_is)
    (case c35 => k_is)
    (case k35 => k_is)
    (case i35 => k_is)
    (case a36 => k_is)
    (case l36 => k_is)
    (case c36 => k_is)
    (case k36 => k_is)
    (case i36 => k_is)
    (case lT => k_is)
    (case pgL => k_is)
    (case hdL => k_is)
    (case poL => k_is)
    (case saL => k_is)
    (case mkL => k_is)
    (case kcL => k_is)
    (case caL => k_is)
    (case moL => k_is)
    (case ntL => k_is)
    (case pgR => k_is)
    (case hdR => k_is)
    (case poR => k_is)
    (case saR => k_is)
    (case mkR => k_is)
    (case kcR => k_is)
    (case caR => k_is)
    (case moR => k_is)
    (case ntR => k_is)
    (case pgB => k_is)
    (case hdB => k_is)
    (case poB => k_is)
    (case saB => k_is)
    (case mkB => k_is)
    (case kcB => k_is)
    (case caB => k_is)
    (case moB => k_is)
    (case ntB => k_is)
    (case hn => k_is)
    (case htk => k_is)
    (case co_letters => k_is)
    (case co_steps => k_is)
    (case co_weight => k_is)
    (case co_parts => k_is)
    (case co_works => k_is)
    (case co_within => k_is)
    (case co_leaf => k_is)
    (case co_row => k_is)
    (case co_bundle => k_is)
    (case z_isinstance => k_is)
    (case z_int => k_is)
    (case z_bool => k_is)
    (case z_str => k_is)
    (case z_list => k_is)
    (case z_tuple => k_is)
    (case z_dict => k_is)
    (case z_len => k_is)
    (case z_all => k_is)
    (case z_any => k_is)
    (case z_set => k_is)
    (case z_max => k_is)
    (case z_min => k_is)
    (case z_range => k_is)
    (case z_zip => k_is)
    (case z_sum => k_is)
    (case z_sorted => k_is)
    (case z_abs => k_is)
    (case z_enumerate => k_is)
    (case icL => k_is)
    (case itL => k_is)
    (case icR => k_is)
    (case itR => k_is)
    (case icB => k_is)
    (case itB => k_is)
    (case icW => k_is)
    (case itW => k_is)
    (case suLR => k_is)
    (case neLR => rfl)
    (case suLB => k_is)
    (case neLB => rfl)
    (case suLW => k_is)
    (case neLW => rfl)
    (case suRL => k_is)
    (case neRL => rfl)
    (case suRB => k_is)
    (case neRB => rfl)
    (case suRW => k_is)
    (case neRW => rfl)
    (case suBL => k_is)
    (case neBL => rfl)
    (case suBR => k_is)
    (case neBR => rfl)
    (case suBW => k_is)
    (case neBW => rfl)
