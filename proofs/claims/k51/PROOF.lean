import PyProof.Rows.All
import Wide.All
import OpenK.AllK
import Wide.FinOn
import HandS.ForMost
import HandS.Zip
import HandS.AnyAll
import PyProof.TupleOfGen
import PyProof.GenCompT
import KE.GoesEnum
import HandS.IsInst
import HandS.Walk
import HandS.EndOwn
import HandS.ExcInit
import HandS.ExcValue
import HandS.ExcIs
import HandS.ExcField
import KE.KExcSuper
import HandS.TupMul
import KE.KExcIs
import HandS.Wide
import HandS.TupAny
import HandS.SortKw
import KE.DataMinMax
import KE.KEqSeq
import PyProof.StrBlock2
import HandS.Codes
import KE.SortKeyHeap
import HandS.Rev
import HandS.SetFor
import KE.DataFind
import HandS.More
import HandS.Style
import HandS.Star
import HandS.SetBool
import HandS.SetIn
import KE.SortData
import HandS.RaiseMore
import HandS.WordsExc
import HandS.FStr
import HandS.Head2
import HandS.HeadEnd
import HandS.HeadHook4
import HandS.List
import PyProof.Rows.SeqMore
import PyProof.Rows.StrMeet
import HandS.Strs
import HandS.TupSets
import HandS.Dict
import KE.KDictPairs
import HandS.GenList
import PyProof.P3Eq
import PyProof.SumWalkG
import PyProof.WalksMore
import PyProof.Rows.CountFlat
import PyProof.Rows.SumAny
import PyProof.ZipIter
import HandS.Text
import HandS.StrSplit
import HandS.DictComp
import HandS.Exc
import KE.GoesComp
import HandS.ExcOwn
import HandS.HotCalls
import PyProof.ConsumeS
import PySem.Challenge.RW_clusterhall_k51_spare_houses
set_option Elab.async false
set_option linter.all false
set_option maxRecDepth 100000
set_option maxHeartbeats 2000000
namespace GX
open PySem PySem.Spec PyProof.Rows L2 GxR
/-- what the element of a generator expression meets: its own frame, and all that stood when the walked thing was made, but for the table at P -/
structure Ask (X : Cx) (scope : Scope) (P : Addr) (s1 : Shared) (cenv : Env) (s2 : Shared) (m2 : Str → Option Value) : Prop where
  sc : cenv.scope = scope
  gl : cenv.globals = X.env.globals
  bl : cenv.builtins = builtinsNs
  ce : cenv.cells = cloFrom X.env.cells scope.names []
  ns : s2.heap.Ns cenv.locals m2
  kp : ∀ b o, b ≠ P → s1.heap.get? b = some o → s2.heap.get? b = some o
  tb : ∃ ps, s1.heap.get? P = some { cls := .none, data := .fields ps }
/-- the element, over two names -/
def Elt2 (X : Cx) (scope : Scope) (P : Addr) (xa xb : Str) (elt : Expr) (pre : L2.St → V → V → Prop) (g : L2.St → V → V → V) : Prop :=
  ∀ (pins : List (Addr × Obj)) (σ : L2.St) (H : Hp) (s1 : Shared) (cenv : Env) (B : Around) (Er : Value → Shared → Prop) (s2 : Shared) (m2 : Str → Option Value) (v w : V) (u z : Value),
    Inv X pins σ H s1 → Ask X scope P s1 cenv s2 m2 → B.handled = none → m2 xa = some u → m2 xb = some z → RelV v u → RelV w z → pre σ v w →
    wpAny (model X.prog X.w) B (eval elt cenv) (fun y s3 => RelV (g σ v w) y ∧ Keeps s2 s3) Er s2
/-- the same, its items pairs -/
def Begun2 (X : Cx) (P : Addr) (s1 : Shared) (vs : List (V × V)) (it : Value) (s2 : Shared) : Prop :=
  ∃ (Ia : Addr) (fp wr : List Addr) (Pf : Nat → Array Value → Prop) (Sf : Nat → Heap → Prop) (Mid : Nat → Addr → Heap → Prop) (h2 : Heap) (t2 : Nat), it = .ref Ia ∧ s2 = { s1 with heap := h2, toks := t2 } ∧ (∀ b o, s1.heap.get? b = some o → h2.get? b = some o) ∧ s1.heap.objs.size ≤ h2.objs.size ∧
    (∀ B : Around, B.handled = none → WalksU X.prog X.w B Ia fp wr vs.length Pf Sf Mid) ∧ Sf 0 h2 ∧ (∀ b ∈ fp, b < h2.objs.size ∧ b ≠ P) ∧ (∀ b ∈ wr, s1.heap.objs.size ≤ b) ∧ ∀ i us, Pf i us → ∃ v w u z, us = #[u, z] ∧ vs[i]? = some (v, w) ∧ RelV v u ∧ RelV w z
/-- a generator at g stands ready in s5; it will give the values of ws; H1: what was held before -/
def Ready (X : Cx) (pins : List (Addr × Obj)) (σ : L2.St) (H1 : Hp) (P : Addr) (ws : List V) (g : Addr) (s5 : Shared) : Prop :=
  ∃ (fp wr : List Addr) (G : Array GenState → Array GenState → Prop) (F : Nat → Value → Prop) (Sf : Nat → Shared → Prop),
    WalksS X.prog X.w X.A.in4 g fp wr G ws.length F Sf ∧ Sf 0 s5 ∧ (∀ b ∈ fp, b < s5.heap.objs.size) ∧ g ∈ fp ∧ (∀ i s9, Sf i s9 → s9.TypeIs (.ref g) "generator") ∧ (∀ j y, F j y → ∃ v, ws[j]? = some v ∧ RelV v y) ∧
    ∀ s', Moved wr G s5 s' → ∃ H2, Tabbed P H1 H2 ∧ Inv X pins σ H2 s'
/-- what the scope of a generator expression, with its first name x, is, within a def of the scope sc -/
structure GenV (sc scope : Scope) (x : Str) : Prop where
  kind : scope.kind = .function
  co : scope.isCoroutine = false
  cell : ∀ y ∈ scope.names, y.2 ≠ .cell
  dot : scope.names.lookup (".0" : Str) = some NameKind.local
  loc : scope.names.lookup x = some .local
  free : ∀ y ∈ scope.names, y.2 = .free → sc.names.lookup y.1 = some .cell ∨ sc.names.lookup y.1 = some .free
section
variable {X : Cx} {pins : List (Addr × Obj)} {σ : L2.St} {H : Hp} {s : Shared}
theorem GenV.to {scope : Scope} {x : Str} (S : GenV X.env.scope scope x) (I : Inv X pins σ H s) : GenS X.env scope x :=
  ⟨S.kind, S.co, S.cell, S.dot, S.loc, fun y hy e => by
    rcases S.free y hy e with k | k
    · exact I.ok.has _ (.inl k)
    · exact I.ok.has _ (.inr k)⟩
theorem all_pass (n : Nat) : passing (fun _ => true) n 0 = List.range n := by
  simp [passing]
theorem gen2 {c P : Addr} {elt iter : Expr} {xa xb : Str} {pa pb pt gpos : Pos} {kt : Nat} {scope : Scope} {pre : L2.St → V → V → Prop} {g : L2.St → V → V → V} {k : Nat} {Qg : Value → Shared → Prop}
    (hr : Room k X.A) (TB : TabB X.base X.mg c P) (hcode : X.env.code = .ref c) (S : GenS X.env scope xa) (Sb : scope.names.lookup xb = some .local) (hab : xa ≠ xb) (hel : Elt2 X scope P xa xb elt pre g) (hs : ∀ v, genFold iter X.env v = pure v)
    (h : wpAny (model X.prog X.w) X.A (eval iter X.env) (fun xv sA => ∃ H1 s1, Inv X pins σ H1 s1 ∧ TabG H1 P ∧
      wpAny (model X.prog X.w) X.A (pyIter xv) (fun it s2 => ∃ vs, Begun2 X P s1 vs it s2 ∧ (∀ v ∈ vs, pre σ v.1 v.2) ∧ ∀ a s5, Ready X pins σ H1 P (vs.map fun v => g σ v.1 v.2) a s5 → Qg (.ref a) s5) X.xe sA) X.xe s) :
    wpAny (model X.prog X.w) X.A (eval (.GeneratorExp elt [⟨.Tuple [.Name xa pa, .Name xb pb] kt pt, iter, [], 0⟩] scope gpos) X.env) Qg X.xe s := by
  refine wpAny_GeneratorExp_walksQT hr.hd S.co (closure_ok S.free) S.cell S.dot S.loc Sb hab S.kind (by have := hr.dp; omega) ?_ hs
  refine wpAny_mono h (fun xv sA h1 => ?_) (fun _ _ e => e)
  obtain ⟨H1, s1, I1, ⟨ps, hP, ht⟩, hit⟩ := h1
  refine wpAny_mono hit (fun it s2 h2 => ?_) (fun _ _ e => e)
  obtain ⟨vs, ⟨Ia, fp, wr, Pf, Sf, Mid, hp2, t2, rfl, rfl, kp, sz, W, st0, hfp, hwr, hPf⟩, hpre, hQ⟩ := h2
  have tabS : s1.heap.get? P = some { cls := .none, data := .fields ps } := I1.hok P _ hP
  have tabL : P < s1.heap.objs.size := Heap.lt_size tabS
  have tab2 : hp2.get? P = some { cls := .none, data := .fields ps } := kp _ _ tabS
  have cd : PySem.W.CodeHd hp2 c P := TB.code.keeps fun b u e => kp b u (I1.bk b u e)
  have lim : hp2.NoLimit := I1.nolimit.keeps kp
  refine ⟨lim, ?_⟩
  have cont : ∀ (code : Value) (h3 : Heap) (tk : Nat) (ps' : Array Value), Heap.ExtBut P hp2 h3 → hp2.objs.size ≤ h3.objs.size → h3.get? P = some { cls := .none, data := .fields ps' } → (∃ more, ps' = ps ++ more) → TriplesOk ps'.toList →
      wpAny (model X.prog X.w) X.A (builtinsFor X.env.globals X.env.builtins) (fun bi s4 =>
        ∃ I fp wr n0 P0 St0 M0 pz F, Value.ref Ia = .ref I ∧ (∀ B : Around, B.handled = none → WalksU X.prog X.w B I fp wr n0 P0 St0 M0) ∧ (∀ i vals, P0 i vals → ∃ va vb, vals = #[va, vb]) ∧ St0 0 s4.heap ∧ (∀ b ∈ fp, b < s4.heap.objs.size) ∧ s4.heap.NoLimit ∧ cStatics ∉ wr ∧
          (∀ hf : Heap, (∀ b o, s4.heap.get? b = some o → hf.get? b = some o) →
            QuietGenT X.prog X.w (genEnv scope (cloFrom X.env.cells scope.names []) s4.heap.objs.size code bi X.env) xa xb [] elt (List.range s4.heap.objs.size) wr P0 pz F hf) ∧
          (∀ a h5 tk gs, gs.bare = true → s4.heap.objs.size < a → h5.objs.size = a + 1 → (∀ b o, s4.heap.get? b = some o → h5.get? b = some o) →
            WalksS X.prog X.w X.A.in4 a (a :: s4.heap.objs.size :: List.range s4.heap.objs.size) (s4.heap.objs.size :: wr) (GenOnlyQ s4.gens.size) (passing pz n0 0).length
              (fun j y => ∃ i, (passing pz n0 0)[j]? = some i ∧ F i y) (GenAt X.prog X.w X.A.in4 a s4.gens.size s4.heap.objs.size (List.range s4.heap.objs.size) wr pz n0 F) →
            GenAt X.prog X.w X.A.in4 a s4.gens.size s4.heap.objs.size (List.range s4.heap.objs.size) wr pz n0 F 0 { s4 with gens := s4.gens.push gs, toks := tk, heap := h5 } →
            Qg (.ref a) { s4 with gens := s4.gens.push gs, toks := tk, heap := h5 })) X.xe { s1 with heap := h3, toks := tk } := by
    intro code h3 tk ps' hx hsz hP3 hmore ht3
    obtain ⟨bm, ob, e1, e2, e3, e4, e5, e6, e7, e8⟩ := TB.bm
    have kp3 : ∀ b u, b ≠ P → s1.heap.get? b = some u → h3.get? b = some u := fun b u hb e => hx b u hb (kp b u e)
    have ncs : cStatics < s1.heap.objs.size := let ⟨_, hns, _⟩ := I1.nolimit; hns.lt
    have ncP : cStatics ≠ P := fun e => by
      obtain ⟨_, ⟨o', es, ep, ho, hd, _⟩, _⟩ := I1.nolimit
      rw [e, tabS] at ho
      cases ho
      cases hd
    refine wpAny_builtinsFor (m := X.mg) (by rw [I1.ok.glob]; exact ((I1.mod.glob.keeps I1.bk).keeps kp).extBut hx TB.gP) e1 e2 (kp3 _ _ e4 (I1.bk _ _ e5)) e6 e7 e8 ?_
    refine ⟨Ia, fp, wr, vs.length, Pf, Sf, Mid, (fun _ => true), (fun i y => ∃ v, vs[i]? = some v ∧ RelV (g σ v.1 v.2) y), rfl, W, (fun i vals hv => by obtain ⟨_, _, u, z, e, _⟩ := hPf i vals hv; exact ⟨u, z, e⟩), ?_, fun b hb => Nat.lt_of_lt_of_le (hfp b hb).1 hsz, lim.extBut hx ncP, fun z => Nat.lt_irrefl _ (Nat.lt_of_lt_of_le ncs (hwr _ z)), ?_, ?_⟩
    · exact (W X.A hr.hd).frame _ _ _ st0 fun b hb u e => hx b u (hfp b hb).2 e
    · intro hf hkf
      refine ⟨fun B Er i va vb s2 m2 hB hv hn hm hm' hk => ?_, fun B Er i va vb s2 m2 hB hv hp hn hm hm' hk => ?_⟩
      · simp only [List.forIn_nil]
        exact wpAny_pure ⟨rfl, keeps_refl _⟩
      · obtain ⟨v', w', u', z', eq, hv', rv, rw'⟩ := hPf i _ hv
        obtain ⟨rfl, rfl⟩ : va = u' ∧ vb = z' := by simpa using congrArg Array.toList eq
        have ask : Ask X scope P s1 (genEnv scope (cloFrom X.env.cells scope.names []) h3.objs.size code builtinsNs X.env) s2 m2 := by
          refine ⟨rfl, rfl, rfl, rfl, hn, fun b o hb e => ?_, ⟨ps, tabS⟩⟩
          have hl : b < s1.heap.objs.size := Heap.lt_size e
          refine hk b (List.mem_range.mpr (Nat.lt_of_lt_of_le hl (Nat.le_trans sz hsz))) (fun z => ?_) o (hkf b o (kp3 b o hb e))
          exact Nat.lt_irrefl _ (Nat.lt_of_lt_of_le hl (hwr b z))
        exact wpAny_mono (hel pins σ H1 s1 _ B Er s2 m2 v' w' va vb I1 ask hB hm hm' rv rw' (hpre (v', w') (List.mem_of_getElem? hv'))) (fun y s3 r => ⟨⟨(v', w'), hv', r.1⟩, r.2⟩) fun _ _ e => e
    · intro a h5 tk5 gs hgb hag hsz5 hk5 W5 hat
      simp only [all_pass, List.length_range] at W5
      refine hQ a _ ⟨_, _, _, _, _, by rw [List.length_map]; exact W5, hat, fun b hb => ?_, List.mem_cons_self, fun i s9 st => ?_, fun j y hy => ?_, fun s' hm => ?_⟩
      · show b < h5.objs.size
        rcases List.mem_cons.mp hb with z | z
        · rw [z, hsz5]
          exact Nat.lt_succ_self _
        · rcases List.mem_cons.mp z with z | z
          · rw [z, hsz5]
            exact Nat.lt_succ_of_lt hag
          · rw [hsz5]
            exact Nat.lt_succ_of_lt (Nat.lt_trans (List.mem_range.mp z) hag)
      · exact st.1.typeIs
      · obtain ⟨i, hij, v, hv, ry⟩ := hy
        obtain ⟨hj, ej⟩ := List.getElem?_eq_some_iff.mp hij
        rw [List.getElem_range] at ej
        subst ej
        exact ⟨g σ v.1 v.2, by rw [List.getElem?_map, hv]; rfl, ry⟩
      · obtain ⟨more, em⟩ := hmore
        have nwr : ∀ b u, s1.heap.get? b = some u → b ∉ h3.objs.size :: wr := fun b u e hb => by
          have hl := Heap.lt_size e
          rcases List.mem_cons.mp hb with z | z
          · rw [z] at hl
            exact Nat.lt_irrefl _ (Nat.lt_of_lt_of_le hl (Nat.le_trans sz hsz))
          · exact Nat.lt_irrefl _ (Nat.lt_of_lt_of_le hl (hwr b z))
        have J := inv_tab (more := more) (h' := s'.heap) (g' := s'.gens) (d' := s'.drawn) (t' := s'.toks) I1 hP (fun b u hb e => hm.heap b u (nwr b u e) (hk5 b u (kp3 b u hb e)))
          (by rw [← em]; exact hm.heap P _ (nwr P _ tabS) (hk5 P _ hP3)) (AllBare.movedS (I1.bare.push hgb) hm)
        rw [sh_eta s1 s' hm.os] at J
        exact ⟨upd H1 P (.tbl (ps ++ more)), ⟨⟨ps ++ more, upd_same, by rw [← em]; exact ht3⟩, fun b hb => upd_ne hb⟩, J⟩
  cases hf : codeAmong gpos ps.toList with
  | none =>
    refine wpAny_genexprCodeX hcode (cd.code tab2 ht) (cd.tab tab2) hf fun c' h' tk hx hge hlt hco' _ htab' _ => ?_
    obtain ⟨o1, us, f1, tf, fl, tg, inF, tx, tt, op, _, _, _, _, _, _, _, _, _, htr, _⟩ := hco'
    exact cont _ h' tk _ hx (Nat.le_trans hge (Nat.le_of_lt hlt)) htab'.2 ⟨_, rfl⟩ htr
  | some cv =>
    refine wpAny_genexprCode_hit hcode (cd.code tab2 ht) hf ?_
    exact cont cv hp2 t2 ps (Heap.ExtBut.refl _ _) (Nat.le_refl _) tab2 ⟨#[], by simp⟩ ht
/-- a generator expression: it will give the list that the reading hands on -/
structure PGn (X : Cx) (P : Addr) (ge : Expr) (t : L2.St → Hp → (List V → Hp → Prop) → Prop) : Prop where
  run : ∀ (pins : List (Addr × Obj)) (s : Shared) (σ : L2.St) (H : Hp) (R : List V → Hp → Prop) (Qg : Value → Shared → Prop), Inv X pins σ H s → t σ H R →
    (∀ ws H1 a s5, R ws H1 → Ready X pins σ H1 P ws a s5 → Qg (.ref a) s5) → wpAny (model X.prog X.w) X.A (eval ge X.env) Qg X.xe s
/-- over zip of two tuples -/
theorem pgn_zip {c P : Addr} {elt e1 e2 : Expr} {xa xb : Str} {pa pb pt gpos pz pn : Pos} {kt : Nat} {scope : Scope} {pre : L2.St → V → V → Prop} {g : L2.St → V → V → V} {k : Nat} {ta : TA}
    (hr : Room k X.A) (TB : TabB X.base X.mg c P) (hcode : X.env.code = .ref c) (S : GenV X.env.scope scope xa) (Sb : scope.names.lookup xb = some .local) (hab : xa ≠ xb) (hg : Gl X "zip") (hm : X.mg "zip" = none) (ha : PA X [e1, e2] ta) (hel : Elt2 X scope P xa xb elt pre g)
    (hs : ∀ v, genFold (.Call (.Name "zip" pn) [e1, e2] [] pz) X.env v = pure v)
    (he : starEach [e1, e2] X.env = (false, eval e1 X.env) :: starEach [e2] X.env := by rfl) (hpl : (backTo pz (starEach [e2] X.env)).any (·.1) = false := by rfl) :
    PGn X P (.GeneratorExp elt [⟨.Tuple [.Name xa pa, .Name xb pb] kt pt, .Call (.Name "zip" pn) [e1, e2] [] pz, [], 0⟩] scope gpos)
      (fun σ H R => ta σ H fun vs H1 => ∃ (a b : Addr) (xs ys : List V), vs = [.ref a, .ref b] ∧ SqT X.K H1 a xs ∧ SqT X.K H1 b ys ∧ TabG H1 P ∧ (∀ v ∈ xs.zip ys, pre σ v.1 v.2) ∧ R ((xs.zip ys).map fun v => g σ v.1 v.2) H1) := by
  refine ⟨fun pins s σ H R Qg I h hQ => gen2 (pins := pins) (σ := σ) hr TB hcode (S.to I) Sb hab hel hs ?_⟩
  refine Call_ (ld_blt I hg hm PyProof.Rows.boot_zip (PyProof.Rows.callWith_type1 (thn (ha.run pz pins s σ H _ I h) fun us s1 ⟨vs, H1, I1, r1, q1⟩ => ?_) he hpl))
  obtain ⟨a, b, xs, ys, ex, hX, hY, hT, hp, q1⟩ := q1
  subst ex
  obtain ⟨u1, u2, rfl, ra, rb⟩ := vals2 r1
  obtain rfl : u1 = Value.ref a := ra
  obtain rfl : u2 = Value.ref b := rb
  obtain ⟨its, rv, p1, _⟩ := I1.tuple hX
  obtain ⟨jts, rw', p2, _⟩ := I1.tuple hY
  obtain ⟨o1, ho1, oc1, od1⟩ := _root_.id p1
  obtain ⟨o2, ho2, oc2, od2⟩ := _root_.id p2
  have aL : a < s1.heap.objs.size := Heap.lt_size ho1
  have bL : b < s1.heap.objs.size := Heap.lt_size ho2
  refine RZ.call_zipT (show s1.heap.IsTuple a its.toArray from p1) (show s1.heap.IsTuple b jts.toArray from p2) fun h' hz hTI hTO h1 h2 hsz hk => ?_
  refine ⟨H1, s1, I1, hT, wpAny_pyIter_zip hz ⟨xs.zip ys, ?_, hp, fun w s5 hR => hQ _ H1 w s5 q1 hR⟩⟩
  obtain ⟨ps, hP, _⟩ := hT
  have tabS := I1.hok P _ hP
  have tabL : P < s1.heap.objs.size := Heap.lt_size tabS
  have ne1 : a ≠ P := fun z2 => by
    have e2 : s1.heap.get? P = some o1 := by rw [← z2]; exact ho1
    have e3 := e2.symm.trans tabS
    cases e3
    cases oc1
  have ne2 : b ≠ P := fun z2 => by
    have e2 : s1.heap.get? P = some o2 := by rw [← z2]; exact ho2
    have e3 := e2.symm.trans tabS
    cases e3
    cases oc2
  have W := fun (B : Around) (hB : B.handled = none) => (WalksT.zipD2 (prog := X.prog) (w := X.w) (A := B)
    (zip_sep2 (N := s1.heap.objs.size) (fp1 := [a]) (fp2 := [b]) (fun c hc => by rw [List.mem_singleton.mp hc]; exact aL) (fun c hc => by rw [List.mem_singleton.mp hc]; exact bL))
    (Draws.tuple (A := B.in1) hB s1.heap.objs.size a (Nat.ne_of_lt aL) its.toArray) (Draws.tuple (A := B.in1) hB (s1.heap.objs.size + 1) b (Nat.ne_of_lt (Nat.lt_succ_of_lt bL)) jts.toArray)).toU
  have hn : (xs.zip ys).length = min its.toArray.size jts.toArray.size := by rw [List.length_zip, rv.length, rw'.length, List.size_toArray, List.size_toArray]
  rw [← hn] at W
  refine ⟨_, _, _, _, _, _, h', s1.toks, rfl, rfl, hk, by rw [hsz]; exact Nat.le_add_right _ _, W, ⟨hz, hTI, ⟨_, _, hTO⟩, ⟨h1, ⟨o1, hk _ _ ho1, oc1, od1⟩⟩, ⟨h2, ⟨o2, hk _ _ ho2, oc2, od2⟩⟩⟩, fun d hd => ?_, fun d hd => ?_, fun i us hu => ?_⟩
  · rw [hsz]
    have hd2 : d = s1.heap.objs.size + 4 ∨ d = s1.heap.objs.size + 2 ∨ d = s1.heap.objs.size + 3 ∨ d = s1.heap.objs.size ∨ d = a ∨ d = s1.heap.objs.size + 1 ∨ d = b := by simpa using hd
    rcases hd2 with z | z | z | z | z | z | z
    · rw [z]; exact ⟨Nat.add_lt_add_left (by decide) _, fun q => Nat.lt_irrefl _ (Nat.lt_of_le_of_lt (Nat.le_add_right _ 4) (q ▸ tabL))⟩
    · rw [z]; exact ⟨Nat.add_lt_add_left (by decide) _, fun q => Nat.lt_irrefl _ (Nat.lt_of_le_of_lt (Nat.le_add_right _ 2) (q ▸ tabL))⟩
    · rw [z]; exact ⟨Nat.add_lt_add_left (by decide) _, fun q => Nat.lt_irrefl _ (Nat.lt_of_le_of_lt (Nat.le_add_right _ 3) (q ▸ tabL))⟩
    · rw [z]; exact ⟨Nat.lt_add_of_pos_right (by decide), fun q => Nat.lt_irrefl _ (q ▸ tabL)⟩
    · rw [z]; exact ⟨Nat.lt_of_lt_of_le aL (Nat.le_add_right _ 5), ne1⟩
    · rw [z]; exact ⟨Nat.add_lt_add_left (by decide) _, fun q => Nat.lt_irrefl _ (Nat.lt_of_le_of_lt (Nat.le_add_right _ 1) (q ▸ tabL))⟩
    · rw [z]; exact ⟨Nat.lt_of_lt_of_le bL (Nat.le_add_right _ 5), ne2⟩
  · have hd2 : d = s1.heap.objs.size + 4 ∨ d = s1.heap.objs.size + 3 ∨ d = s1.heap.objs.size ∨ d = s1.heap.objs.size + 1 := by simpa using hd
    rcases hd2 with z | z | z | z
    · rw [z]; exact Nat.le_add_right _ _
    · rw [z]; exact Nat.le_add_right _ _
    · rw [z]; exact Nat.le_refl _
    · rw [z]; exact Nat.le_add_right _ _
  · obtain ⟨x1, x2, hx1, hx2, rfl⟩ := hu
    have hu2 : its[i]? = some x1 := by simpa using hx1
    have hw2 : jts[i]? = some x2 := by simpa using hx2
    have hi3 : i < xs.length := by rw [rv.length]; exact (List.getElem?_eq_some_iff.mp hu2).1
    have hj3 : i < ys.length := by rw [rw'.length]; exact (List.getElem?_eq_some_iff.mp hw2).1
    obtain ⟨u', hu', ru⟩ := rv.get (List.getElem?_eq_getElem hi3)
    rw [hu2] at hu'
    cases hu'
    obtain ⟨w', hw', rw2⟩ := rw'.get (List.getElem?_eq_getElem hj3)
    rw [hw2] at hw'
    cases hw'
    exact ⟨xs[i], ys[i], _, _, rfl, by rw [List.getElem?_zip_eq_some]; exact ⟨List.getElem?_eq_getElem hi3, List.getElem?_eq_getElem hj3⟩, ru, rw2⟩
/-- all(..) of a generator expression of truth values -/
theorem pe_allG {P : Addr} {ge : Expr} {t : L2.St → Hp → (List V → Hp → Prop) → Prop} {p pos : Pos} (hg : Gl X "all") (hm : X.mg "all" = none) (hb : bootBuiltins "all" = some (.builtin "all")) (G : PGn X P ge t)
    (he : starEach [ge] X.env = (false, eval ge X.env) :: starEach [] X.env := by rfl) :
    PE X (.Call (.Name "all" p) [ge] [] pos) (fun σ H Q => t σ H fun ws H1 => ∃ bs : List Bool, ws = bs.map V.bl ∧ ∀ H2, Tabbed P H1 H2 → Q (.bl (bs.all _root_.id)) H2) := by
  refine ⟨fun pins s σ H Q I h => ?_⟩
  refine wpAny_Call_Name_kw (ld_blt I hg hm hb ?_)
  refine PyProof.Rows.callWith_builtin1 ?_ he (by rfl)
  rw [he]
  refine Calls.spliced_cons (G.run pins s σ H _ _ I h fun ws H1 a s5 hR hG => ?_)
  obtain ⟨fp, wr, Gr, F, Sf, W, hst, hfp, hgm, hty, hF, hI⟩ := hG
  obtain ⟨bs, rfl, q⟩ := hR
  refine Calls.spliced_nil ?_
  refine call_all_walkS (W.in4_1.self 0 _ _ _ hst ⟨a, fp, wr, Gr, _, F, Sf, fun j => bs.getD j false, rfl, W.in4_1, hst, ?_, fun s' hmv => ?_⟩)
  · intro j y sj Qj Ej hy hQj
    obtain ⟨v, hv, rv⟩ := hF j y hy
    rw [List.getElem?_map] at hv
    cases hb : bs[j]? with
    | none => rw [hb] at hv; cases hv
    | some b =>
      rw [hb] at hv
      cases hv
      obtain rfl : y = Value.bool b := rv
      have e : bs.getD j false = b := by rw [List.getD_eq_getElem?_getD, hb]; rfl
      have hQ2 : Qj (bs.getD j false) sj := hQj
      rw [e] at hQ2
      exact wpAny_truthy_bool hQ2
  · obtain ⟨H2, hT, J⟩ := hI s' hmv
    refine ⟨.bl _, H2, J, rfl, ?_⟩
    have e : (List.range (bs.map V.bl).length).all (fun j => bs.getD j false) = bs.all _root_.id := by
      rw [List.length_map, Bool.eq_iff_iff, List.all_eq_true, List.all_eq_true]
      constructor
      · intro hh b hb
        obtain ⟨j, hj, ej⟩ := List.getElem_of_mem hb
        have q2 := hh j (List.mem_range.mpr hj)
        rw [List.getD_eq_getElem?_getD, List.getElem?_eq_getElem hj] at q2
        rw [← ej]
        exact q2
      · intro hh j hj
        have hj' := List.mem_range.mp hj
        rw [List.getD_eq_getElem?_getD, List.getElem?_eq_getElem hj']
        exact hh _ (List.getElem_mem hj')
    rw [e]
    exact q H2 hT
end
end GX
set_option maxHeartbeats 2000000
namespace GX
open PySem PySem.Spec PyProof.Rows L2 GxR
section
variable {X : Cx} {scope : Scope} {P : Addr} {pins : List (Addr × Obj)} {σ : L2.St} {H : Hp} {s1 s2 : Shared} {cenv : Env} {m2 : Str → Option Value} {B : Around} {Er : Value → Shared → Prop} {Q : Value → Shared → Prop}
/-- a name of the generator's own -/
theorem own_name {x : Str} {u : Value} {p : Pos} (a : Ask X scope P s1 cenv s2 m2) (hk : scope.kind = .function) (hl : scope.names.lookup x = some .local) (hm : m2 x = some u) (h : Q u s2) (hd : (x == ("__debug__" : Str)) = false := by decide) :
    wpAny (model X.prog X.w) B (eval (.Name x p) cenv) Q Er s2 :=
  wpAny_Name (wpAny_loadName_local (by rw [a.sc]; exact hk) (show cenv.scope.names.lookup x = some .local by rw [a.sc]; exact hl) a.ns hm h) hd
/-- what is still there -/
theorem Ask.step (a : Ask X scope P s1 cenv s2 m2) {s3 : Shared} (k : Keeps s2 s3) : Ask X scope P s1 cenv s3 m2 := by
  obtain ⟨h', tk, rfl, hk⟩ := k
  exact ⟨a.sc, a.gl, a.bl, a.ce, a.ns.keeps hk, fun b o hb e => hk b o (a.kp b o hb e), a.tb⟩
theorem Ask.mod (a : Ask X scope P s1 cenv s2 m2) (I : Inv X pins σ H s1) (gP : mainGlobals ≠ P) : s2.heap.Ns cenv.globals X.mg := by
  rw [a.gl, I.ok.glob]
  exact (I.mod.glob.keeps I.bk).at' fun o e => a.kp _ o gP e
end
def le2 : V → V → V
  | .int i, .int j => .bl (decide (i ≤ j))
  | v, _ => v
def Ints2 (v w : V) : Prop := ∃ i j : Int, v = .int i ∧ w = .int j
section
variable {X : Cx} {scope : Scope} {P : Addr} {xa xb : Str} {p1 p2 p3 p4 : Pos} (hk : scope.kind = .function) (hl : scope.names.lookup xa = some .local) (hl2 : scope.names.lookup xb = some .local)
    (hd : (xa == ("__debug__" : Str)) = false := by decide) (hd2 : (xb == ("__debug__" : Str)) = false := by decide)
include hk hl hl2 hd hd2
theorem elt_le : Elt2 X scope P xa xb (.Compare (.Name xa p1) [.LtE] [.Name xb p2] p3) (fun _ v w => Ints2 v w) (fun _ v w => le2 v w) := by
  intro pins σ H s1 cenv B Er s2 m2 v w u z I a hB hx hy rv rw' hp
  obtain ⟨i, j, rfl, rfl⟩ := hp
  obtain ⟨t, rfl⟩ := rv
  obtain ⟨t', rfl⟩ := rw'
  exact wpAny_Compare1 (own_name a hk hl hx (own_name a hk hl2 hy (le_int ⟨rfl, keeps_refl _⟩) hd2) hd)
end
end GX
namespace My
open PySem PySem.Spec PyProof.Rows L2 GX GxR
/-! heaps -/
/-- all that was tracked outside of S is as it was -/
def Kp (S : List Addr) (H H' : Hp) : Prop := ∀ x o, x ∉ S → H x = some o → H' x = some o
theorem Kp.refl (S : List Addr) (H : Hp) : Kp S H H := fun _ _ _ h => h
theorem Kp.trans {S : List Addr} {H H1 H2 : Hp} (a : Kp S H H1) (b : Kp S H1 H2) : Kp S H H2 := fun x o n h => b x o n (a x o n h)
theorem Kp.mono {S T : List Addr} {H H' : Hp} (a : Kp S H H') (h : ∀ x ∈ S, x ∈ T) : Kp T H H' := fun x o n e => a x o (fun z => n (h x z)) e
theorem Same.kp {H H' : Hp} (S : List Addr) (a : Same H H') : Kp S H H' := fun x o _ h => a x o h
theorem Kp.seq {K : PySem.W.Frag} {S : List Addr} {H H' : Hp} {a : Addr} {xs : List V} (e : Kp S H H') (h : SqL K H a xs) (n : a ∉ S) : SqL K H' a xs := by
  rcases h with (h | ⟨o, h⟩) | h
  · exact .inl (.inl (e _ _ n h))
  · exact .inl (.inr ⟨o, e _ _ n h⟩)
  · exact .inr h
theorem kp_upd {S : List Addr} {H : Hp} {p : Addr} {o : HO} (h : p ∈ S) : Kp S H (upd H p o) := fun b x n e => by
  rw [upd_ne (fun z => n (by rw [z]; exact h))]
  exact e
theorem same_upd {H : Hp} {p : Addr} {o : HO} (h : H p = none) : Same H (upd H p o) := fun b x e => by
  rw [upd_ne (ne_of_none e h)]
  exact e
/-- the built-in names that the text uses -/
structure Txt (mg : Str → Option Value) : Prop where
  len : mg "len" = none
  abs : mg "abs" = none
  isi : mg "isinstance" = none
  lst : mg "list" = none
  tup : mg "tuple" = none
  zip : mg "zip" = none
  all : mg "all" = none
  str : mg "str" = none
  int : mg "int" = none
  bool : mg "bool" = none
  max : mg "max" = none
  min : mg "min" = none
  range : mg "range" = none
/-- a drawing box: what is left of its digits, its mixed number, how often it was asked (at most c) -/
def BoxV (xs : List V) (c : Int) : Prop := ∃ d m t : Int, xs = [.int d, .int m, .int t] ∧ 0 ≤ d ∧ 0 ≤ m ∧ m < 2147483629 ∧ 0 ≤ t ∧ t ≤ c
def BoxAt (H : Hp) (b : Addr) (c : Int) : Prop := ∃ xs, H b = some (.lst xs) ∧ BoxV xs c
theorem walk_zipT {K : PySem.W.Frag} {a b : Addr} {xs ys : List V} {n : Nat} (hn : n = min xs.length ys.length) : Walk (RZ.ItzT K a b) n (fun H => SqT K H a xs ∧ SqT K H b ys) (YPair (fun i => xs[i]?) (fun i => ys[i]?)) := by
  subst hn
  refine ⟨fun i _ hi q => ?_, fun _ q => ⟨xs, ys, q.1, q.2, by omega⟩, fun i H v H' _ q y => ?_⟩
  · have h1 : i < xs.length := by omega
    have h2 : i < ys.length := by omega
    exact ⟨xs, ys, xs[i], ys[i], q.1, q.2, by simp [h1], by simp [h2]⟩
  · obtain ⟨T, x, z, h1, h2, h3, h4, h5⟩ := y
    exact ⟨T, x, z, h1, h2, h3, h4 xs q.1, h5 ys q.2⟩
/-! alike -/
def Leaf (x y : V) : Prop := (∃ b, x = .bl b ∧ y = .bl b) ∨ (∃ i, x = .int i ∧ y = .int i) ∨ (∃ z, x = .str z ∧ y = .str z) ∨ (x = .non ∧ y = .non)
def Al (H : Hp) : Nat → V → V → Prop
  | 0, x, y => Leaf x y
  | n + 1, x, y => Leaf x y ∨ ∃ (a b : Addr) (xs ys : List V), x = .ref a ∧ y = .ref b ∧ ((H a = some (.lst xs) ∧ H b = some (.lst ys)) ∨ (H a = some (.tup xs) ∧ H b = some (.tup ys))) ∧ xs.length = ys.length ∧ xs.length < 100000 ∧
      ∀ (i : Nat) (x y : V), xs[i]? = some x → ys[i]? = some y → Al H n x y
theorem Al.same {H H' : Hp} (e : Same H H') : ∀ (n : Nat) (x y : V), Al H n x y → Al H' n x y
  | 0, _, _, h => h
  | n + 1, x, y, h => by
    rcases h with h | ⟨a, b, xs, ys, e1, e2, h, hl, hl2, k⟩
    · exact .inl h
    · refine .inr ⟨a, b, xs, ys, e1, e2, ?_, hl, hl2, fun i x y h1 h2 => Al.same e n x y (k i x y h1 h2)⟩
      rcases h with ⟨h1, h2⟩ | ⟨h1, h2⟩
      · exact .inl ⟨e _ _ h1, e _ _ h2⟩
      · exact .inr ⟨e _ _ h1, e _ _ h2⟩
section
variable {X : Cx}
theorem pe_isi {e : Expr} {te : TE} {x : Str} {c : String} {p1 p2 p5 : Pos} (T : Txt X.mg) (g1 : Gl X "isinstance") (g2 : Gl X x) (m2 : X.mg x = none) (b2 : bootBuiltins x = some (.type c)) (he : PE X e te)
    (hn : x ≠ "__name__" := by decide) (hd : (x == ("__debug__" : Str)) = false := by decide)
    (h1 : starEach [e, .Name x p2] X.env = (false, eval e X.env) :: starEach [.Name x p2] X.env := by rfl) :
    PE X (.Call (.Name "isinstance" p1) [e, .Name x p2] [] p5) (tCB (rIsi X.K) (tCons te (tCons (tC (.ty c)) tNil))) :=
  pe_callB call_isi g1 T.isi (by decide +kernel) (pa_cons he (pa_cons (pe_bltn g2 m2 b2 rfl hn hd) pa_nil) h1) (by decide) (by decide) h1
theorem bt_list : bootBuiltins "list" = some (.type "list") := by decide +kernel
theorem bt_tuple : bootBuiltins "tuple" = some (.type "tuple") := by decide +kernel
theorem bt_int : bootBuiltins "int" = some (.type "int") := by decide +kernel
end
theorem BoxAt.same {H H' : Hp} {b : Addr} {c : Int} (e : Same H H') (h : BoxAt H b c) : BoxAt H' b c := by
  obtain ⟨xs, h1, h2⟩ := h
  exact ⟨xs, e _ _ h1, h2⟩
theorem BoxAt.kp {S : List Addr} {H H' : Hp} {b : Addr} {c : Int} (e : Kp S H H') (n : b ∉ S) (h : BoxAt H b c) : BoxAt H' b c := by
  obtain ⟨xs, h1, h2⟩ := h
  exact ⟨xs, e _ _ n h1, h2⟩
/-- a def whose code object stands at c -/
structure FunC (K : PySem.W.Frag) (x qual : Str) (st : Stmt) (f : Addr) (fd : FuncData) (c : Addr) : Prop where
  ex : ∃ (oc : Value) (od : Option Addr) (kV doc pm : Value) (an : Option Addr) (ct : Value) (osl : Array (Option Value)),
    fd = PySem.W.fnOf x qual (defArgs st) (defBody st) (defScope st) .none kV doc pm an (.ref c) ct ∧ K.lookup f = some ⟨oc, od, .func fd, osl⟩ ∧ PySem.W.codeIn K (.ref c) qual = true
  kp : PySem.W.keepIn K (.ref f) = true
theorem FunC.fn {K : PySem.W.Frag} {x qual : Str} {st : Stmt} {f c : Addr} {fd : FuncData} (F : FunC K x qual st f fd c) : Fun K x qual st f fd := by
  obtain ⟨⟨oc, od, kV, doc, pm, an, ct, osl, e, l, h⟩, k⟩ := F
  exact ⟨⟨oc, od, kV, doc, pm, an, .ref c, ct, osl, e, l, h⟩, k⟩
section
variable {P : Program} {w : World} {K : PySem.W.Frag} {mg : Str → Option Value} {base : Heap}
theorem FunC.ok {x qual : Str} {st : Stmt} {f c : Addr} {fd : FuncData} {N ps : List Str} {k : Nat} {sp : Sp} (F : FunC K x qual st f fd c) (S : FnScope N ps (defScope st)) (len : ∀ vs H Q E, sp vs H Q E → vs.length = ps.length)
    (hbody : ∀ (A : Around) (outer : List Env) (s : Shared) (H : Hp) (vs : List V) (Q : VK) (E : XK), Room k (A.deeper (envOfC qual (defScope st) s.heap.objs.size f (.ref c))) → sp vs H Q E →
      ∃ t, PSs (cxOf CX0 P w K mg base N qual (defScope st) f (.ref c) A outer s H E).nox (defBody st) t ∧ t { nx := fun _ H' => Q .non H', rt := Q } (start N vs) H) :
    FnOk P w K mg base CX0 (k + 1) f fd ps sp := by
  obtain ⟨oc, od, kV, doc, pm, an, ct, osl, rfl, lk, hcd⟩ := F.ex
  refine fn_of lk hcd S len fun A outer s H vs Q E hr hsp => ?_
  obtain ⟨t, h1, h2⟩ := hbody A outer s H vs Q E hr hsp
  exact ⟨t, h1.nox, h2⟩
/-- what a generator expression's scope is checked for, where it captures nothing -/
def genC (scope : Scope) (x : Str) : Bool :=
  decide (scope.kind = .function) && decide (scope.isCoroutine = false) && scope.names.all (fun y => decide (y.2 ≠ .cell) && decide (y.2 ≠ .free)) && decide (scope.names.lookup (".0" : Str) = some NameKind.local) && decide (scope.names.lookup x = some NameKind.local)
theorem genS_of {sc scope : Scope} {x : Str} (h : genC scope x = true) : GenV sc scope x := by
  unfold genC at h
  simp only [Bool.and_eq_true, decide_eq_true_eq, List.all_eq_true] at h
  obtain ⟨⟨⟨⟨h1, h2⟩, h3⟩, h4⟩, h5⟩ := h
  exact ⟨h1, h2, fun y hy => (h3 y hy).1, h4, h5, fun y hy e => absurd e (h3 y hy).2⟩
end
/-- between two turns of the law -/
structure Good (T D : Addr) (bs : List Addr) (i : Nat) (H : Hp) : Prop where
  tab : TabG H T
  lst : H D = some (.lst (bs.map V.ref))
  box : ∀ (j : Nat) (b : Addr), i ≤ j → bs[j]? = some b → BoxAt H b 0
theorem TabG.same {H H' : Hp} {T : Addr} (e : Same H H') (h : TabG H T) : TabG H' T := by
  obtain ⟨ps, h1, h2⟩ := h
  exact ⟨ps, e _ _ h1, h2⟩
theorem TabG.kp {S : List Addr} {H H' : Hp} {T : Addr} (e : Kp S H H') (n : T ∉ S) (h : TabG H T) : TabG H' T := by
  obtain ⟨ps, h1, h2⟩ := h
  exact ⟨ps, e _ _ n h1, h2⟩
theorem tab_ne {H : Hp} {T b : Addr} {o : HO} (h : TabG H T) (e : H b = some o) (n : ∀ ps, o ≠ .tbl ps) : b ≠ T := fun z => by
  obtain ⟨ps, h1, _⟩ := h
  rw [z, h1] at e
  exact n ps (Option.some.inj e).symm
theorem Good.same {T D : Addr} {bs : List Addr} {i : Nat} {H H' : Hp} (g : Good T D bs i H) (e : Same H H') : Good T D bs i H' :=
  ⟨TabG.same e g.tab, e _ _ g.lst, fun j b h1 h2 => (g.box j b h1 h2).same e⟩
theorem tab_at {p : Program} {loose : List Str} {mean : ExcName → Option Value} {mg mb : Str → Option Value} {h : Heap} {K : PySem.W.Frag} {x : Str} {c T : Addr} (Z : PyProof.Rows.Top p loose mean mg mb h) (X : K.In h)
    (hr : ((recsOf p).any fun e => e.name == x) = true) (ht : PySem.W.tabIn K x = some (c, T)) : PySem.W.CodeHd h c T ∧ h.get? T = some { cls := .none, data := .fields #[] } := by
  cases e : (recsOf p).find? (fun e => e.name == x) with
  | none =>
    obtain ⟨d, hd, hx⟩ := List.any_eq_true.mp hr
    exact absurd hx (List.find?_eq_none.mp e d hd)
  | some d => exact PySem.W.tab_of Z X e ht
theorem tab_in {K : PySem.W.Frag} {x : Str} {f c T : Addr} {oc e : Value} {od ed : Option Addr} {fd : FuncData} {sl es : Array (Option Value)} {vs : Array Value} (a : PySem.W.nsIn K mainGlobals x = some (some (.ref f))) (l : K.lookup f = some ⟨oc, od, .func fd, sl⟩) (hc : fd.code = .ref c)
    (u : K.lookup c = some ⟨e, ed, .fields vs, es⟩) (v : vs[11]? = some (.ref T)) : PySem.W.tabIn K x = some (c, T) := by
  unfold PySem.W.tabIn
  simp only [a, l, hc, u, v]
end My
set_option maxHeartbeats 2000000
namespace XI
open PySem PySem.W PySem.Calls PyProof.Rows
/-- the body of such an __init__: super().__init__(words); self.f = f -/
abbrev bodyI (f : Str) (p0 p1 p2 p3 p4 p5 q1 q2 q3 q4 : Pos) : List Stmt :=
  [.Expr (.Call (.Attribute (.Call (.Name "super" p0) [] [] p1) "__init__" p2) [.Name "words" p3] [] p4) p5, .Assign [.Attribute (.Name "self" q1) f q2] (.Name f q3) q4]
section
variable {prog : Program} {w : World} {A : Around} {R : Result → Shared → Prop} {K : Frag} {mg mb : Str → Option Value}
variable {C fI cda cc : Addr} {qual f file : Str} {params : Arguments} {scope : Scope} {kV doc pm ct oc ccl cl : Value} {an od cdd cld : Option Addr} {osl ccs csl : Array (Option Value)} {vs : Array Value} {tf : Tok} {cd : ClassData} {p0 p1 p2 p3 p4 p5 q1 q2 q3 q4 : Pos} {ar : Arg} {pl : Env → Sem Bool}
theorem init_run {hp : Heap} {g : Array GenState} {d : Drawn} {t : Nat} {os : OsState} {e t1 : Addr} {u1 u2 : Value} {args : Args} (hroom : A.depth < recursionLimit) (X : K.In hp) (hg : hp.Ns mainGlobals mg) (hb : hp.Ns builtinsNs mb) (hbb : ∀ x : Str, x ≠ "__name__" → mb x = bootBuiltins x) (lim : hp.NoLimit)
    (T : L2.OexC K C) (hno : findIn K (.ref C) f = some none)
    (lf : K.lookup fI = some ⟨oc, od, .func (ksFn "__init__" qual params (bodyI f p0 p1 p2 p3 p4 p5 q1 q2 q3 q4) scope .none kV doc pm an (.ref cda) ct cc), osl⟩) (hcd : codeIn K (.ref cda) qual = true)
    (hcode : K.lookup cda = some ⟨ccl, cdd, .fields vs, ccs⟩) (hvs : vs[2]? = some (.str file tf)) (hfile : ((prog.main.file : Str) == file) = true)
    (hcell : K.lookup cc = some ⟨cl, cld, .cell (some (.ref C)), csl⟩) (hC : clsIn K C = some cd) (hsub : mroIn K C (.ref C) = some true) (hms : mg "super" = none) (ho : nsIn K cStatics "thirdparty.any" = some none)
    (hvC : typeIn K (.ref C) = some (.type "type")) (hsi : ks_superIn K C C "__init__" = some (some (.builtin "ValueError.__init__"))) (hve : subIn K (.ref C) (.type "ValueError") = some true) (htop : (prog.main.scope.names.lookup ("super" : Str)).isSome = false)
    (hpp : (params.posonlyargs ++ params.args).head? = some ar) (hpa : ar.arg = "self")
    (hbind : BindsTo ⟨hp, g, d, t, os⟩ (ksFn "__init__" qual params (bodyI f p0 p1 p2 p3 p4 p5 q1 q2 q3 q4) scope .none kV doc pm an (.ref cda) ct cc) args [("self", .ref e), ("words", u1), (f, u2)])
    (sc1 : scope.names.lookup ("super" : Str) = some .globalImplicit) (sc2 : scope.names.lookup ("__class__" : Str) = some .free) (sc3 : scope.names.lookup ("self" : Str) = some .local) (sc4 : scope.names.lookup ("words" : Str) = some .local) (sc5 : scope.names.lookup f = some .local)
    (sc6 : ∀ x ∈ scope.names, x.2 ≠ .cell) (sck : scope.kind = .function) (sco : scope.isCoroutine = false) (scg : scope.isGenerator = false) (nf1 : f ≠ "self") (nf2 : f ≠ "words") (hfd : (f == ("__debug__" : Str)) = false)
    (hev : ∀ env : Env, eval (.Call (.Attribute (.Call (.Name "super" p0) [] [] p1) "__init__" p2) [.Name "words" p3] [] p4) env = (do
      let ov ← attributeBase (.Call (.Name "super" p0) [] [] p1) "__init__" env (eval (.Call (.Name "super" p0) [] [] p1) env)
      standAt p2.atName
      let (f, first) ← holding [ov] (getMethod ov "__init__" (pl env))
      callWith p4 f first (backTo p4 (starEach [.Name "words" p3] env)) []))
    (hKe : ∀ o, K.lookup e ≠ some o) (he : hp.get? e = some (HandSPX.excO C t1))
    (hq : ∀ h' tk dx t2, (∀ b o, b ≠ e → hp.get? b = some o → h'.get? b = some o) → hp.objs.size ≤ dx → dx ≠ e → h'.get? e = some ({ cls := .ref C, dict := some dx, data := .fields #[.ref t2, .none, .none, .none, .bool false, .none] } : Obj) →
      h'.Ns1 dx (fun y => if y = f then some u2 else none) → R (.ok (.ret .none)) ⟨h', g, d, tk, os⟩) :
    codeAny (model prog w) A (.call (.ref fI) args) R ⟨hp, g, d, t, os⟩ := by
  obtain ⟨nm, q, N, bs, bm, sn, sub, ab, col, dd, k0, k1, k2, k3, k5, hCo, hbm⟩ := T.cls
  have hcl : clsIn K C = some { name := nm, bases := bs, mro := .ref C :: bm, ns := N, qualname := q, hasDict := true, slotNames := sn, subclasses := sub, abstract := ab, collection := col, hasDel := false } := by unfold clsIn; rw [hCo] <;> rfl
  refine ks_codeAny_call_defAt (fd := ksFn "__init__" qual params (bodyI f p0 p1 p2 p3 p4 p5 q1 q2 q3 q4) scope .none kV doc pm an (.ref cda) ct cc) (body := bodyI f p0 p1 p2 p3 p4 p5 q1 q2 q3 q4) (binds := [("self", .ref e), ("words", u1), (f, u2)]) hroom (X _ _ lf) rfl lim (codeRec_of X hcd) rfl hbind sc6 (fun y hy => ?_) (fun h1 hns hk1 => ?_) sco scg sck
  · rcases List.mem_cons.mp hy with z | hy
    · rw [z]; exact sc3
    · rcases List.mem_cons.mp hy with z | hy
      · rw [z]; exact sc4
      · rw [List.mem_singleton.mp hy]; exact sc5
  · have X1 : K.In h1 := fun b o z => hk1 b o (X b o z)
    have b1 : (("self" : Str) == f) = false := by simpa using Ne.symm nf1
    have b2 : (("words" : Str) == f) = false := by simpa using Ne.symm nf2
    have m1 : (fun x => ([("self", Value.ref e), ("words", u1), (f, u2)] : List (Str × Value)).reverse.lookup x) "self" = some (.ref e) := by
      show ([(f, u2), ("words", u1), ("self", Value.ref e)] : List (Str × Value)).lookup (Str.ofString "self") = _
      rw [List.lookup_cons, b1]
      rfl
    have m2 : (fun x => ([("self", Value.ref e), ("words", u1), (f, u2)] : List (Str × Value)).reverse.lookup x) "words" = some u1 := by
      show ([(f, u2), ("words", u1), ("self", Value.ref e)] : List (Str × Value)).lookup (Str.ofString "words") = _
      rw [List.lookup_cons, b2]
      rfl
    have m3 : (fun x => ([("self", Value.ref e), ("words", u1), (f, u2)] : List (Str × Value)).reverse.lookup x) f = some u2 := by
      show ([(f, u2), ("words", u1), ("self", Value.ref e)] : List (Str × Value)).lookup f = _
      rw [List.lookup_cons, beq_self_eq_true]
    generalize hm : (fun x => ([("self", Value.ref e), ("words", u1), (f, u2)] : List (Str × Value)).reverse.lookup x) = m at hns m1 m2 m3
    have he1 := hk1 _ _ he
    have hlt := Heap.lt_size he
    have hCm := X1 _ _ hCo
    have hpl : interactive (callEnv (ksFn "__init__" qual params (bodyI f p0 p1 p2 p3 p4 p5 q1 q2 q3 q4) scope .none kV doc pm an (.ref cda) ct cc) hp.objs.size fI) = false := by
      show (scope.kind == .module && _) = false
      rw [sck]
      rfl
    refine ks_wpAt_execs_cons (ks_wpAt_Expr_any ?_ hpl)
    refine ks_wpAt_MethodCall ?_ (hev _)
    refine ks_wpAt_super_base sc1 sc2 (by decide) rfl (X1 _ _ lf) rfl hpp rfl (X1 _ _ hcode) rfl hvs hfile htop ?_
    have hg1 : h1.Ns mainGlobals mg := let ⟨o, es, ep, y, r⟩ := hg; ⟨o, es, ep, hk1 _ _ y, r⟩
    have hb1 : h1.Ns builtinsNs mb := let ⟨o, es, ep, y, r⟩ := hb; ⟨o, es, ep, hk1 _ _ y, r⟩
    refine ks_loadName_global sck sc1 (loadGlobal_builtin (mg := mg) (mb := mb) hg1 hms hb1 ((hbb "super" (by decide +kernel)).trans (c := some (.type "super")) (by kernel_rfl)) ⟨rfl, ?_⟩)
    refine wpAny_loadName_free sck sc2 rfl ⟨_, X1 _ _ hcell, rfl⟩ ?_
    rw [hpa]
    refine wpAny_loadName_local sck sc3 hns m1 ?_
    refine ks_wpAny_isType_cls hCm rfl ⟨rfl, ?_⟩
    refine ks_wpAny_call_super hCm rfl he1 rfl (fun c z => by cases z) (looks_mroIn X1 hsub) (fun h2 so2 hk2 => ?_)
    have X2 : K.In h2 := fun b o z => hk2 b o (X1 b o z)
    have he2 := hk2 _ _ he1
    have I2 : InstAt h2 e (HandSPX.excO C t1) C none := ⟨he2, rfl, rfl, trivial⟩
    have hsi' := hsi
    unfold ks_superIn at hsi'
    rw [hcl] at hsi'
    refine kxs_getMethod kxs_ValueError so2 (looks_opaque X2 ho) (l₀ := .ref C :: bm) ?_ rfl X2 hsi' (I2.type.andThen (looks_subIn X2 hve)) (ks_ne X2 I2 hcl) (by decide) ?_
    · exact fun A Q E s k q => wpAny_bind ((looks_clsIn X2 hcl) A _ E s k (wpAny_pure q))
    have hns2 : h2.Ns hp.objs.size m := let ⟨o, es, ep, y, r⟩ := hns; ⟨o, es, ep, hk2 _ _ y, r⟩
    have hmw : (h2.push (kxs_mw "ValueError.__init__" e)).get? h2.objs.size = some (kxs_mw "ValueError.__init__" e) := Heap.get?_push_at rfl rfl
    have hns3 : (h2.push (kxs_mw "ValueError.__init__" e)).Ns hp.objs.size m := let ⟨o, es, ep, y, r⟩ := hns2; ⟨o, es, ep, Heap.get?_push_of_some _ y, r⟩
    have he3 : (h2.push (kxs_mw "ValueError.__init__" e)).get? e = some (excObj C t1 none .none) := Heap.get?_push_of_some _ he2
    have X3 : K.In (h2.push (kxs_mw "ValueError.__init__" e)) := fun b o z => Heap.get?_push_of_some _ (X2 b o z)
    refine kxs_callWith (i := "ValueError.__init__") (x := e) (by rfl) (evalArgs_plain ?_)
    show wpAny _ _ (spliced ((false, eval (.Name "words" p3) _) :: backTo p4 (starEach [] _))) _ _ _
    refine Calls.spliced_cons (ldc sck sc4 hns3 m2 ?_)
    refine Calls.spliced_nil ⟨hmw, ?_⟩
    refine wpAny_call (codeAny_of_tree ?_)
    show wpAny _ _ (callAny (.ref h2.objs.size) ⟨[u1], []⟩) _ _ _
    simp only [callAny]
    refine wpAny_bind (wpAny_load hmw ?_)
    simp only [kxs_mw, show (Value.type "method-wrapper" == Value.type "method" || Value.type "method-wrapper" == Value.type "builtin_function_or_method" || Value.type "method-wrapper" == Value.type "method-wrapper") = true by decide, if_true]
    refine KFB.if_so (by decide) ?_
    refine wpAny_bind (check_bound_init F.excBase_ValueError.toExcCallFacts (X3 _ _ hCo) he3 rfl ?_)
    refine wpAny_bind (wpAny_pure (wpAny_pure ?_))
    refine ⟨plainId_quiet F.excBase_ValueError.init.plain _, codeAny_builtin F.excBase_ValueError.initEntry ?_⟩
    refine exc_init_tree (cls := .ref C) (t0 := t1) (dv := none) (c2 := .none) (c3 := .none) (b4 := .bool false) he3 (by show 1 ≤ sizeLine; rw [sizeLine_eq]; omega) (fun h4 hk4 he4 ht4 => ?_)
    have hLe : hp.objs.size ≠ e := Nat.ne_of_gt hlt
    have hns4 : h4.Ns hp.objs.size m := let ⟨o, es, ep, y, r⟩ := hns3; ⟨o, es, ep, hk4 _ _ hLe y, r⟩
    have neK : ∀ b o, K.lookup b = some o → b ≠ e := fun b o z y => by
      rw [y] at z
      exact hKe o z
    have X4 : K.In h4 := fun b o z => hk4 b o (neK b o z) (X3 b o z)
    refine wpAt_of_wpAny (wpAny_execs_cons (plainObj_wpAny_Assign_Attribute (ldc sck sc5 hns4 m3 (ldc sck sc3 hns4 m1 ?_) hfd)))
    have ho4 : h4.get? e = some { cls := .ref C, data := .fields #[.ref (h2.push (kxs_mw "ValueError.__init__" e)).objs.size, .none, .none, .none, .bool false, .none] } := he4
    refine set_plain (od := none) X4 ⟨ho4, rfl, rfl, trivial⟩ T.sa ?_
    refine HandSPX.exc_osa X4 ho4 hcl (show HandSPX.refsVE (.ref C :: bm) = true from hbm) rfl hno (fun h5 tk dx hk5 hdx hde he5 hn5 => ?_)
    refine wpAny_execs_nil (hq h5 tk dx _ (fun b o hb z => hk5 b o hb (hk4 b o hb (Heap.get?_push_of_some _ (hk2 b o (hk1 b o z))))) ?_ hde he5 hn5)
    refine Nat.le_trans ?_ hdx
    obtain ⟨o, es, ep, y, r⟩ := hns4
    exact Nat.le_of_lt (Heap.lt_size y)
end
end XI
namespace GX
open PySem PySem.Spec PyProof.Rows L2
open AutoSeq1 (wpAny_loadPart')
theorem tuple_once (l : Addr) (items : Array Value) (n : Nat) (dd : Option Addr) (sl : Array (Option Value)) (u : Tok) :
    Meets (Builtin.«tuple.__mul__» ⟨[.ref l, .int 1 u], []⟩) (fun _ R s => s.heap.get? l = some { cls := .type "tuple", dict := dd, data := .seq items n, slots := sl } ∧ R (.ok (.ret (Value.ref l))) s) :=
  .of_wp fun prog w A R s h => by
    obtain ⟨hp, g, d, tk, os⟩ := s
    obtain ⟨hl, h⟩ := h
    have f1 := AutoSeq1.idx_int
    wp_walk using wpAny_loadPart' hl
    exact ⟨_, rfl, h⟩
/-- t * k, k from 1 on: once is the tuple itself -/
def rRepU (K : PySem.W.Frag) : R2 := fun x y H Q => ∃ l k xs, x = .ref l ∧ y = .int k ∧ SqT K H l xs ∧ xs ≠ [] ∧ 1 ≤ k ∧ k ≤ 1000 ∧ xs.length ≤ 1000 ∧
  (k = 1 → Q (.ref l) H) ∧ (k ≠ 1 → ∀ p, H p = none → Q (.ref p) (upd H p (.tup (List.replicate k.toNat xs).flatten)))
theorem op_repU {X : Cx} : OpR X (binaryOp .Mult) (rRepU X.K) := by
  intro pins s σ H x y v u Q I rx ry h
  obtain ⟨l, k, xs, rfl, rfl, hT, hne, h1, h2, hz, q1, q2⟩ := h
  by_cases hk : k = 1
  · subst hk
    cases rx
    obtain ⟨t, rfl⟩ := ry
    obtain ⟨its, r, ⟨⟨cls, dd, data, sl⟩, ho, hc, n, hd⟩, hs⟩ := I.tuple hT
    simp only at hc hd
    subst hc hd
    exact wpAny_binaryOp_repeat_ref (T := "tuple") (U := "int") (by decide) ⟨_, ho, rfl⟩ (fun s' => typeIs_int s' 1 t) noFill_tuple_mul F.fills_int_mul F.slot_int_rmul repeat_tuple F.slot_int_index.lookup
      (call_meets F.slot_int_rmul (typeIs_int s 1 t) F.entry_int_rmul (F.args_int_rmul_2 _ _) (int_rmul_tuple 1 t l its.toArray n dd sl)
        ⟨ho, rfl, ⟨_, ho, rfl⟩, call_meets F.slot_tuple_mul ⟨_, ho, rfl⟩ F.entry_tuple_mul (F.args_tuple_mul_2 _ _) (tuple_once l its.toArray n dd sl t) ⟨ho, ⟨.ref l, H, I, rfl, q1 rfl⟩⟩⟩)
  · exact op_repT pins s σ H _ _ v u Q I rx ry ⟨l, k, xs, rfl, rfl, hT, hne, by omega, h2, hz, q2 hk⟩
end GX
namespace My
open PySem PySem.Spec PyProof.Rows L2 GX GxR
/-- what is known within a turn of a law: the tables of the code objects Ts, the box at b (asked at most c times), the things fs that stay -/
structure Wd (Ts : List Addr) (b : Addr) (c : Int) (fs : List (Addr × HO)) (H : Hp) : Prop where
  tab : ∀ T ∈ Ts, TabG H T
  box : BoxAt H b c
  obj : ∀ f ∈ fs, H f.1 = some f.2
  off : ∀ f ∈ fs, f.1 ≠ b ∧ f.1 ∉ Ts
section
variable {Ts : List Addr} {b : Addr} {c : Int} {fs : List (Addr × HO)} {H H' : Hp}
theorem Wd.same (W : Wd Ts b c fs H) (e : Same H H') : Wd Ts b c fs H' :=
  ⟨fun T h => TabG.same e (W.tab T h), W.box.same e, fun f h => e _ _ (W.obj f h), W.off⟩
/-- a thing that is new -/
theorem Wd.new {c0 : Int} (W : Wd Ts b c0 fs H) {p : Addr} {o : HO} (n : H p = none) (e : H' p = some o) (W' : Wd Ts b c fs H') : Wd Ts b c ((p, o) :: fs) H' := by
  refine ⟨W'.tab, W'.box, fun f hf => ?_, fun f hf => ?_⟩
  · rcases List.mem_cons.mp hf with z | z
    · rw [z]
      exact e
    · exact W'.obj f z
  · rcases List.mem_cons.mp hf with z | z
    · rw [z]
      refine ⟨fun q => ?_, fun q => ?_⟩
      · obtain ⟨xs, h1, _⟩ := W.box
        exact ne_of_none h1 n (Eq.symm q)
      · obtain ⟨ps, h1, _⟩ := W.tab _ q
        rw [show H p = some (.tbl ps) from h1] at n
        cases n
    · exact W'.off f z
theorem Wd.laid (W : Wd Ts b c fs H) {p : Addr} {o : HO} (n : H p = none) : Wd Ts b c ((p, o) :: fs) (upd H p o) :=
  W.new n upd_same (W.same (same_upd n))
theorem Wd.le (W : Wd Ts b c fs H) {c' : Int} (h : c ≤ c') : Wd Ts b c' fs H := by
  obtain ⟨xs, h1, d, m, t, h2, h3, h4, h5, h6, h7⟩ := W.box
  exact ⟨W.tab, ⟨xs, h1, d, m, t, h2, h3, h4, h5, h6, by omega⟩, W.obj, W.off⟩
end
/-- between two turns, of several tables -/
structure GoodS (Ts : List Addr) (D : Addr) (bs : List Addr) (i : Nat) (H : Hp) : Prop where
  tab : ∀ T ∈ Ts, TabG H T
  lst : H D = some (.lst (bs.map V.ref))
  box : ∀ (j : Nat) (b : Addr), i ≤ j → bs[j]? = some b → BoxAt H b 0
/-- the things that stay within turn i -/
def keptIn (D : Addr) (bs : List Addr) (i : Nat) (H : Hp) : List (Addr × HO) := (D :: bs.drop (i + 1)).map fun a => (a, (H a).getD (.lst []))
theorem GoodS.out {Ts : List Addr} {D b : Addr} {bs : List Addr} {i : Nat} {c : Int} {fs : List (Addr × HO)} {H H' : Hp} (g : GoodS Ts D bs i H) (W : Wd Ts b c fs H') (h : ∀ f ∈ keptIn D bs i H, f ∈ fs) : GoodS Ts D bs (i + 1) H' := by
  have at_ : ∀ a ∈ D :: bs.drop (i + 1), H' a = some ((H a).getD (.lst [])) := fun a ha => W.obj (a, _) (h _ (List.mem_map.mpr ⟨a, ha, rfl⟩))
  refine ⟨W.tab, ?_, fun j b' h1 h2 => ?_⟩
  · have e := at_ D List.mem_cons_self
    rw [g.lst] at e
    exact e
  · have hm : b' ∈ bs.drop (i + 1) := by
      refine List.mem_iff_getElem?.mpr ⟨j - (i + 1), ?_⟩
      rw [List.getElem?_drop, show i + 1 + (j - (i + 1)) = j by omega]
      exact h2
    have e := at_ b' (List.mem_cons_of_mem _ hm)
    obtain ⟨xs, h3, h4⟩ := g.box j b' (by omega) h2
    rw [h3] at e
    exact ⟨xs, e, h4⟩
/-- an amount: numbers from 0 to 10 ** 12 -/
def Amt (ns : List Int) : Prop := ∀ n ∈ ns, 0 ≤ n ∧ n ≤ 1000000000000
/-! two lists, place by place -/
inductive Prs (R : V → V → Prop) : List V → List V → Prop
  | nil : Prs R [] []
  | cons {x y : V} {xs ys : List V} : R x y → Prs R xs ys → Prs R (x :: xs) (y :: ys)
theorem Prs.len {R : V → V → Prop} : ∀ {xs ys : List V}, Prs R xs ys → xs.length = ys.length
  | _, _, .nil => rfl
  | _, _, .cons _ h => congrArg Nat.succ h.len
theorem Prs.get {R : V → V → Prop} : ∀ {xs ys : List V}, Prs R xs ys → ∀ (i : Nat) (x y : V), xs[i]? = some x → ys[i]? = some y → R x y
  | _, _, .nil, _, _, _, h, _ => by simp at h
  | _, _, .cons r h, 0, _, _, h1, h2 => by
    cases h1
    cases h2
    exact r
  | _, _, .cons r h, i + 1, x, y, h1, h2 => h.get i x y h1 h2
theorem Prs.ints {R : V → V → Prop} (r : ∀ i, R (.int i) (.int i)) : ∀ ns : List Int, Prs R (ns.map V.int) (ns.map V.int)
  | [] => .nil
  | n :: ns => .cons (r n) (Prs.ints r ns)
/-! what the amounts come to, number by number -/
def spNothing : Sp := fun vs H Q _ => ∃ k : Nat, vs = [.int (k : Int)] ∧ 1 ≤ k ∧ k ≤ 1000 ∧ ∀ p H', Same H H' → H p = none → H' p = some (.tup ((List.replicate k (0 : Int)).map V.int)) → Q (.ref p) H'
def spZipS (K : PySem.W.Frag) (op : Int → Int → Int) : Sp := fun vs H Q _ => ∃ (a b : Addr) (xs ys : List Int), vs = [.ref a, .ref b] ∧ SqT K H a (xs.map V.int) ∧ SqT K H b (ys.map V.int) ∧ xs.length ≤ 1000 ∧
  ∀ p H', Same H H' → H p = none → H' p = some (.tup ((List.zipWith op xs ys).map V.int)) → Q (.ref p) H'
theorem get_int {xs : List Int} {i : Nat} {v : V} (h : (xs.map V.int)[i]? = some v) : ∃ x, xs[i]? = some x ∧ v = .int x := by
  rw [List.getElem?_map] at h
  cases e : xs[i]? with
  | none => rw [e] at h; cases h
  | some x =>
    rw [e] at h
    exact ⟨x, rfl, (Option.some.inj h).symm⟩
theorem same_putA {H H1 : Hp} {b : Addr} {o : HO} (s : Same H H1) (n : H b = none) : Same H (upd H1 b o) := fun x u e => by
  rw [upd_ne (ne_of_none e n)]
  exact s _ _ e
theorem zip_ints : ∀ (xs ys : List Int), ∀ v ∈ (xs.map V.int).zip (ys.map V.int), Ints2 v.1 v.2
  | [], _, _, h => by cases h
  | _ :: _, [], _, h => by cases h
  | x :: xs, y :: ys, v, h => by
    rcases List.mem_cons.mp h with e | e
    · rw [e]
      exact ⟨x, y, rfl, rfl⟩
    · exact zip_ints xs ys v e
theorem rep_flat (k : Nat) (v : V) : (List.replicate k [v]).flatten = List.replicate k v := by
  induction k with
  | zero => rfl
  | succ k ih =>
    rw [List.replicate_succ, List.flatten_cons, ih]
    rfl
theorem kp_of_tabbed {T : Addr} {H H2 : Hp} (h : Tabbed T H H2) : Kp [T] H H2 := fun x o nx e => by
  rw [h.2 x fun z => nx (by rw [z]; exact List.mem_singleton.mpr rfl)]
  exact e
theorem at_ints {xs : List Int} {i : Nat} {x : Int} (h : xs[i]? = some x) : atI (xs.map V.int) (0 + (i : Int)) = some (.int x) := by
  rw [Int.zero_add]
  exact atI_nat (by rw [List.getElem?_map, h]; rfl)
theorem zw_take {op : Int → Int → Int} {xs ys : List Int} {i : Nat} {x y : Int} (hx : xs[i]? = some x) (hy : ys[i]? = some y) : (List.zipWith op xs ys).take (i + 1) = (List.zipWith op xs ys).take i ++ [op x y] := by
  rw [List.take_add_one, List.getElem?_zipWith, hx, hy]
  rfl
theorem same_seqT {K : PySem.W.Frag} {H H' : Hp} {a : Addr} {xs : List V} (e : Same H H') (h : SqT K H a xs) : SqT K H' a xs := by
  rcases h with (h | ⟨o, h⟩) | h
  · exact .inl (.inl (e _ _ h))
  · exact .inl (.inr ⟨o, e _ _ h⟩)
  · exact .inr h
theorem Amt.take {ns : List Int} (h : Amt ns) (k : Nat) : Amt (ns.take k) := fun n hn => h n (List.mem_of_mem_take hn)
theorem Amt.drop {ns : List Int} (h : Amt ns) (k : Nat) : Amt (ns.drop k) := fun n hn => h n (List.mem_of_mem_drop hn)
theorem BoxAt.le {H : Hp} {b : Addr} {c c' : Int} (B : BoxAt H b c) (h : c ≤ c') : BoxAt H b c' := by
  obtain ⟨xs, h1, d, m, t, h2, h3, h4, h5, h6, h7⟩ := B
  exact ⟨xs, h1, d, m, t, h2, h3, h4, h5, h6, by omega⟩
theorem box_free {H H' : Hp} {b : Addr} {c : Int} (B : BoxAt H' b c) (k : Kp [b] H H') {x : Addr} (n : H' x = none) : H x = none := by
  cases e : H x with
  | none => rfl
  | some o =>
    by_cases z : x = b
    · obtain ⟨ys, h1, _⟩ := B
      rw [z, h1] at n
      cases n
    · rw [k _ _ (fun q => z (List.mem_singleton.mp q)) e] at n
      cases n
end My
set_option maxHeartbeats 2000000
namespace XI
open PySem PySem.Spec PyProof.Rows L2 GX GxR My
/-- self.f = y behind super().__init__(w), the object new at a -/
def spInit (C : Addr) (f : Str) : Sp := fun vs H Q _ => ∃ (a : Addr) (w y : V), vs = [.ref a, w, y] ∧ H a = some (exo a C none) ∧ ∀ dx, H dx = none → dx ≠ a → Q .non (upd (upd H dx (exd dx [(f, y)])) a (exo a C (some dx)))
section
variable {P : Program} {w : World} {K : PySem.W.Frag} {mg : Str → Option Value} {base : Heap}
variable {C fI cda cc : Addr} {qual f file : Str} {params : Arguments} {scope : Scope} {kV doc pm ct oc ccl cl : Value} {an od cdd cld : Option Addr} {osl ccs csl : Array (Option Value)} {vs : Array Value} {tf : Tok} {cd : ClassData} {p0 p1 p2 p3 p4 p5 q1 q2 q3 q4 : Pos} {ar : Arg} {pl : Env → Sem Bool} {k : Nat}
theorem init_fn (T : OexC K C) (hno : PySem.W.findIn K (.ref C) f = some none)
    (lf : K.lookup fI = some ⟨oc, od, .func (PySem.W.ksFn "__init__" qual params (bodyI f p0 p1 p2 p3 p4 p5 q1 q2 q3 q4) scope .none kV doc pm an (.ref cda) ct cc), osl⟩) (hcd : PySem.W.codeIn K (.ref cda) qual = true)
    (hcode : K.lookup cda = some ⟨ccl, cdd, .fields vs, ccs⟩) (hvs : vs[2]? = some (.str file tf)) (hfile : ((P.main.file : Str) == file) = true)
    (hcell : K.lookup cc = some ⟨cl, cld, .cell (some (.ref C)), csl⟩) (hC : PySem.W.clsIn K C = some cd) (hsub : PySem.W.mroIn K C (.ref C) = some true) (hms : mg "super" = none) (ho : PySem.W.nsIn K cStatics "thirdparty.any" = some none)
    (hvC : PySem.W.typeIn K (.ref C) = some (.type "type")) (hsi : PySem.W.ks_superIn K C C "__init__" = some (some (.builtin "ValueError.__init__"))) (hve : PySem.W.subIn K (.ref C) (.type "ValueError") = some true) (htop : (P.main.scope.names.lookup ("super" : Str)).isSome = false)
    (hpp : (params.posonlyargs ++ params.args).head? = some ar) (hpa : ar.arg = "self")
    (sc1 : scope.names.lookup ("super" : Str) = some .globalImplicit) (sc2 : scope.names.lookup ("__class__" : Str) = some .free) (sc3 : scope.names.lookup ("self" : Str) = some .local) (sc4 : scope.names.lookup ("words" : Str) = some .local) (sc5 : scope.names.lookup f = some .local)
    (sc6 : ∀ x ∈ scope.names, x.2 ≠ .cell) (sck : scope.kind = .function) (sco : scope.isCoroutine = false) (scg : scope.isGenerator = false) (nf1 : f ≠ "self") (nf2 : f ≠ "words") (hfd : (f == ("__debug__" : Str)) = false)
    (hev : ∀ env : Env, eval (.Call (.Attribute (.Call (.Name "super" p0) [] [] p1) "__init__" p2) [.Name "words" p3] [] p4) env = (do
      let ov ← attributeBase (.Call (.Name "super" p0) [] [] p1) "__init__" env (eval (.Call (.Name "super" p0) [] [] p1) env)
      standAt p2.atName
      let (f, first) ← holding [ov] (getMethod ov "__init__" (pl env))
      callWith p4 f first (backTo p4 (starEach [.Name "words" p3] env)) [])) :
    FnOk P w K mg base CX0 k fI (PySem.W.ksFn "__init__" qual params (bodyI f p0 p1 p2 p3 p4 p5 q1 q2 q3 q4) scope .none kV doc pm an (.ref cda) ct cc) ["self", "words", f] (spInit C f) := by
  refine ⟨fun vs H Q E h => ?_, fun A outer s H args us vs Q E hr e0 hb r hsp => ?_⟩
  · obtain ⟨a, w', y, rfl, _⟩ := h
    rfl
  · obtain ⟨a, wv, y, rfl, ha, q⟩ := hsp
    cases r with
    | @cons _ u0 _ r1 h0 r =>
      cases r with
      | @cons _ u1 _ r2 h1 r =>
        cases r with
        | @cons _ u2 _ r3 h2 r =>
          cases r
          cases (show u0 = Value.ref a from h0)
          obtain ⟨t1, he⟩ := exo_at e0.hok ha
          obtain ⟨mb, hb1, hb2⟩ := e0.mod.blt
          obtain ⟨hp, g, d, t, os⟩ := s
          have kb : ∀ b o, base.get? b = some o → hp.get? b = some o := fun b o z => (e0.bs b o z).1
          refine init_run (K := K) (mb := mb) hr.depth (e0.mod.kin.keeps kb) (e0.mod.glob.keeps kb) (hb1.keeps kb) hb2 (e0.mod.nolimit.keeps kb) T hno lf hcd hcode hvs hfile hcell hC hsub hms ho hvC hsi hve htop hpp hpa hb sc1 sc2 sc3 sc4 sc5 sc6 sck sco scg nf1 nf2 hfd hev (fun o z => ?_) he (fun h' tk dx t2 hk hdx hne hx hn => ?_)
          · have z2 := (e0.bs _ _ (e0.mod.kin _ _ z)).2
            rw [ha] at z2
            cases z2
          · have nd : H dx = none := e0.hok.fresh hdx
            refine ⟨.non, upd (upd H dx (exd dx [(f, y)])) a (exo a C (some dx)), rfl, e0.bare, ?_, ?_, rfl, q dx nd hne⟩
            · have na : ∀ {b : Addr}, H b = none → b ≠ a := fun {b} z y => by
                rw [y, ha] at z
                cases z
              refine ⟨fun b o z n _ _ => hk b o (na n) z, fun b o z n _ _ => ⟨o.slots, hk b o (na n) z⟩, fun b o z n _ => ?_, fun b o z _ => ?_, fun b xs z => ?_, fun b o u z => ?_, fun b ps z => ⟨#[], ?_⟩⟩
              · have nb : b ≠ dx := Nat.ne_of_lt (Nat.lt_of_lt_of_le (Heap.lt_size z) hdx)
                rw [upd_ne (na n), upd_ne nb]
                exact n
              · by_cases hb' : b = a
                · rw [hb']
                  exact ⟨_, hx⟩
                · exact ⟨o, hk b o hb' z⟩
              · rw [upd_ne (at_ne ha z exo_tup), upd_ne (ne_of_none z nd)]
                exact z
              · rw [upd_ne (at_ne ha z exo_frz), upd_ne (ne_of_none z nd)]
                exact z
              · rw [upd_ne (at_ne ha z exo_tbl), upd_ne (ne_of_none z nd), z]
                simp
            · intro b o z
              by_cases b1 : b = a
              · rw [b1, upd_same] at z
                cases z
                rw [b1]
                exact exo_ok hx
              · rw [upd_ne b1] at z
                by_cases b2 : b = dx
                · rw [b2, upd_same] at z
                  cases z
                  rw [b2]
                  exact exd_ok hn (relO_put (fs := []) h2 fun g => True.intro)
                · rw [upd_ne b2] at z
                  refine (e0.hok b o z).stay (fun c v hc z' => hk c v ?_ z') (fun c hc => ?_) (fun c xs hc => ?_)
                  · rcases hc with hc | hc
                    · rw [hc]
                      exact b1
                    · exact at_ne ha hc exo_own
                  · rw [upd_ne (at_ne ha hc exo_own), upd_ne (ne_of_none hc nd)]
                    exact hc
                  · rw [upd_ne (at_ne ha hc exo_tup), upd_ne (ne_of_none hc nd)]
                    exact hc
end
end XI
set_option maxHeartbeats 2000000
namespace XI
open PySem PySem.Spec PyProof.Rows L2 GX GxR My
section
variable {X : Cx} {e : Expr} {es : List Expr} {ta : TA} {te : TE} {p pos : Pos} {C fI : Addr} {f x : Str} {k : Nat} {fd : FuncData}
/-- an exception of the class at C, held as a value -/
def IsE (H : Hp) (C : Addr) (v : V) : Prop := ∃ a, v = .ref a ∧ (H a = some (ExO (.ref C) a) ∨ ∃ d fs, H a = some (exo a C (some d)) ∧ H d = some (exd d fs))
theorem IsE.same {H H' : Hp} {C : Addr} {v : V} (s : Same H H') (h : IsE H C v) : IsE H' C v := by
  obtain ⟨a, e, h | ⟨d, fs, h1, h2⟩⟩ := h
  · exact ⟨a, e, .inl (s _ _ h)⟩
  · exact ⟨a, e, .inr ⟨d, fs, s _ _ h1, s _ _ h2⟩⟩
/-- v.n, v an exception with its dict -/
def tFld (K : PySem.W.Frag) (n : Str) (te : TE) : TE := fun σ H Q => te σ H fun x H1 => ∃ (a C d : Addr) (fs : List (Str × V)) (v : V), x = .ref a ∧ XfC K C ∧ PySem.W.findIn K (.ref C) n = some none ∧ H1 a = some (exo a C (some d)) ∧ H1 d = some (exd d fs) ∧ fs.lookup n = some v ∧ Q v H1
theorem pe_fld {n : Str} (he : PE X e te) (hb : attributeBase e n X.env (eval e X.env) = eval e X.env := by rfl) : PE X (.Attribute e n pos) (tFld X.K n te) := by
  refine ⟨fun pins s σ H Q I h => ?_⟩
  refine attr_of hb (thn (he.run pins s σ H _ I h) fun u s1 hh => ?_)
  obtain ⟨x, H1, I1, rx, a, C, d, fs, v, ex, T, hno, ha, hd, l, q⟩ := hh
  subst ex
  obtain rfl : u = Value.ref a := rx
  obtain ⟨t0, ho⟩ := exo_at I1.hok ha
  obtain ⟨mA, hns, rel⟩ := exd_at I1.hok hd
  obtain ⟨o1, ho1, hl⟩ := lookIn_ns hns
  obtain ⟨u, hu, ru⟩ := RelO.some_of (v := v) (o := mA n) (by rw [← l]; exact rel n)
  have J : PySem.W.InstAt s1.heap a _ C (some o1) := ⟨ho, rfl, rfl, ho1⟩
  exact HandSPX.exc_get I1.kIn J T.ga T.gg T.exC (PySem.W.findObj_own T.hdC hno rfl (by rw [hl, hu])) (handed_of ru) ⟨v, H1, I1.tok _, ru, q⟩
end
end XI
namespace XI
open PySem PySem.Spec PyProof.Rows L2 GX GxR My
theorem pmk_imp {X : Cx} {e : Expr} {t t' : L2.St → Hp → XK → Prop} (h : PMk X e t) (k : ∀ σ H Q, t' σ H Q → t σ H Q) : PMk X e t' := fun pins s σ H Q I q => h pins s σ H Q I (k σ H Q q)
/-- raise C(words, y): the exception's dict stands at d -/
def tRaiseE (C : Addr) (f : Str) (ta : TA) : L2.St → Hp → XK → Prop := fun σ H Q => ta σ H fun vs H1 => ∃ w y, vs = [w, y] ∧ ∀ d, H1 d = none → Q (.ref C) (some d) (upd H1 d (.xd [(f, y)]))
theorem pmk_initE {X : Cx} {x : Str} {e : Expr} {es : List Expr} {ta : TA} {p pos : Pos} {C fI : Addr} {k : Nat} {fd : FuncData} {f : Str} {CX : CXT} (hta : ∀ σ H (Q Q' : List V → Hp → Prop), (∀ vs H1, Q vs H1 → Q' vs H1) → ta σ H Q → ta σ H Q')
    (T : OexC X.K C) (iC : PySem.W.findIn X.K (.ref C) "__init__" = some (some (.ref fI))) (tI : PySem.W.typeIn X.K (.ref fI) = some (.type "function"))
    (F1 : FnOk X.prog X.w X.K X.mg X.base CX k fI fd ["self", "words", f] (spInit C f)) (hr : Room (k + 1) X.A) (hb : Binds X.K fd ["self", "words", f] []) (hx : Passes CX X (fun _ _ _ => False)) (hg : Gl X x) (hm : X.mg x = some (.ref C)) (ha : PA X (e :: es) ta)
    (hdb : (x == ("__debug__" : Str)) = false := by decide) (he : starEach (e :: es) X.env = (false, eval e X.env) :: starEach es X.env := by rfl) (hpl : (backTo pos (starEach es X.env)).any (·.1) = false := by rfl) :
    PMk X (.Call (.Name x p) (e :: es) [] pos) (tRaiseE C f ta) := by
  refine pmk_imp (pmk_oex T iC tI F1 hr hb .nil hx hg hm ha hdb he hpl) fun σ H Q h => ?_
  refine hta σ H _ _ (fun vs H1 h1 => ?_) h
  obtain ⟨w', y, rfl, q⟩ := h1
  refine ⟨by show 2 ≤ 1000; decide, fun a na => ⟨a, w', y, rfl, upd_same, fun dx n1 n2 => ⟨rfl, dx, [(f, y)], upd_same, ?_, ?_, ?_⟩⟩⟩
  · rw [upd_ne n2, upd_same]
  · rw [upd_ne n2] at n1
    exact n1
  · rw [upd_ne n2] at n1
    have e : upd (del (upd (upd (upd H1 a (exo a C none)) dx (exd dx [(f, y)])) a (exo a C (some dx))) a) dx (.xd [(f, y)]) = upd H1 dx (.xd [(f, y)]) := by
      funext b
      by_cases b1 : b = dx
      · rw [b1, upd_same, upd_same]
      · rw [upd_ne b1, upd_ne b1]
        by_cases b2 : b = a
        · rw [b2, del_same, na]
        · rw [del_ne b2, upd_ne b2, upd_ne b1, upd_ne b2]
    rw [e]
    exact q dx n1
end XI
set_option maxHeartbeats 2000000
namespace XI
open PySem PySem.Spec PyProof.Rows L2 GX GxR My
/-! an exception that was caught and is kept as a value -/
/-- a caught exception of the class at C, its dict d -/
def KpE (C a : Addr) (d : Option Addr) : HO := .ext fun h => ∃ (oe : Obj) (vs : Array Value), h.get? a = some oe ∧ Zc (.ref C) d oe ∧ oe.data = .fields vs
/-- a kept exception of the class at C -/
def IsK (H : Hp) (C : Addr) (v : V) : Prop := ∃ a, v = .ref a ∧ (H a = some (KpE C a none) ∨ ∃ d fs, H a = some (KpE C a (some d)) ∧ H d = some (.xd fs))
theorem IsK.same {H H' : Hp} {C : Addr} {v : V} (s : Same H H') (h : IsK H C v) : IsK H' C v := by
  obtain ⟨a, e, h | ⟨d, fs, h1, h2⟩⟩ := h
  · exact ⟨a, e, .inl (s _ _ h)⟩
  · exact ⟨a, e, .inr ⟨d, fs, s _ _ h1, s _ _ h2⟩⟩
end XI
namespace My
open PySem PySem.Spec PyProof.Rows L2 GX GxR
/-- a draw below any number up to 2 ** 60 -/
def spTakeW : Sp := fun vs H Q _ => ∃ (b : Addr) (c many : Int), vs = [.ref b, .int many] ∧ BoxAt H b c ∧ 0 < many ∧ many ≤ 1152921504606846976 ∧ c ≤ 1000000000 ∧
  ∀ r H', 0 ≤ r → r < many → Kp [b] H H' → BoxAt H' b (c + 1) → Q (.int r) H'
theorem wideOk {i many : Int} (h0 : 0 < many) (h1 : many ≤ 1152921504606846976) : CDivW i many :=
  wide_div (b := 62) h0 (by have : (2 : Nat) ^ 62 = 4611686018427387904 := by decide
                            rw [this]; omega) (by decide) (by decide)
end My
namespace My
open PySem PySem.Spec PyProof.Rows L2 GX GxR
end My
namespace GX
open PySem PySem.Spec PyProof.Rows L2
end GX
namespace My
open PySem PySem.Spec PyProof.Rows L2 GX GxR
/-- all tuples stay -/
def KTu (H H' : Hp) : Prop := ∀ x xs, H x = some (.tup xs) → H' x = some (.tup xs)
theorem KTu.refl (H : Hp) : KTu H H := fun _ _ h => h
theorem KTu.trans {H H1 H2 : Hp} (a : KTu H H1) (b : KTu H1 H2) : KTu H H2 := fun x xs h => b x xs (a x xs h)
theorem Same.kt {H H' : Hp} (a : Same H H') : KTu H H' := fun x xs h => a x _ h
theorem Kp.kt {b : Addr} {c : Int} {H H' : Hp} (k : Kp [b] H H') (B : BoxAt H b c) : KTu H H' := fun x xs h => k x _ (fun z => by
  obtain ⟨ys, h1, _⟩ := B
  rw [List.mem_singleton.mp z, h1] at h
  cases h) h
theorem kt_upd {H : Hp} {p : Addr} {o : HO} (h : ∀ xs, H p ≠ some (.tup xs)) : KTu H (upd H p o) := fun x xs e => by
  rw [upd_ne (fun z => h xs (by rw [← z]; exact e))]
  exact e
theorem kt_new {H : Hp} {p : Addr} {o : HO} (h : H p = none) : KTu H (upd H p o) := kt_upd fun xs e => by rw [h] at e; cases e
theorem kt_put {H : Hp} {p : Addr} {o u : HO} (h : H p = some u) (n : ∀ xs, u ≠ .tup xs) : KTu H (upd H p o) := kt_upd fun xs e => by
  rw [h] at e
  exact n xs (Option.some.inj e)
theorem nb_of {H : Hp} {b p : Addr} {c : Int} (B : BoxAt H b c) (n : H p = none) : p ≠ b := fun z => by
  obtain ⟨xs, h1, _⟩ := B
  rw [z, h1] at n
  cases n
theorem kp_new {H H' : Hp} {b p : Addr} {o : HO} (k : Kp [b] H H') (n : H' p = none) : Kp [b] H (upd H' p o) := fun x u nx e => same_upd n _ _ (k _ _ nx e)
theorem kp_free {H H' : Hp} {b p : Addr} (k : Kp [b] H H') (nb : p ≠ b) (n : H' p = none) : H p = none := by
  cases h : H p with
  | none => rfl
  | some o =>
    rw [k p o (fun z => nb (List.mem_singleton.mp z)) h] at n
    cases n
theorem kp_put {H H' : Hp} {b p : Addr} {o : HO} (k : Kp [b] H H') (n : H p = none) : Kp [b] H (upd H' p o) := fun x u nx e => by
  rw [upd_ne (ne_of_none e n)]
  exact k _ _ nx e
/-- a gang -/
structure Gang where
  name : Str
  guild : Str
  rank : Int
  many : Int
  want : List Int
  how : Str
  len : Int
def Gang.flat (G : Gang) (w : Addr) : List V := [.str G.name, .str G.guild, .int G.rank, .int G.many, .ref w, .str G.how, .int G.len]
def GangAt (H : Hp) (g : Addr) (G : Gang) : Prop := ∃ w, H g = some (.tup (G.flat w)) ∧ H w = some (.tup (G.want.map V.int))
def RowAt (H : Hp) (r : Addr) (R : Gang × Int) : Prop := ∃ g, H r = some (.tup [.ref g, .int R.2]) ∧ GangAt H g R.1
theorem GangAt.kt {H H' : Hp} {g : Addr} {G : Gang} (k : KTu H H') (h : GangAt H g G) : GangAt H' g G := by
  obtain ⟨w, h1, h2⟩ := h
  exact ⟨w, k _ _ h1, k _ _ h2⟩
theorem RowAt.kt {H H' : Hp} {r : Addr} {R : Gang × Int} (k : KTu H H') (h : RowAt H r R) : RowAt H' r R := by
  obtain ⟨g, h1, h2⟩ := h
  exact ⟨g, k _ _ h1, h2.kt k⟩
def hows : List Str := ["any", "apart", "near", "wide"]
structure GangOk (gs : List Str) (wr : Nat) (G : Gang) : Prop where
  guild : G.guild ∈ gs
  wlen : G.want.length = wr
  amt : Amt G.want
  some : ∃ n ∈ G.want, n ≠ 0
  m1 : 1 ≤ G.many
  m60 : G.many ≤ 60
  r0 : 0 ≤ G.rank
  r9 : G.rank ≤ 9
  l1 : 1 ≤ G.len
  l6 : G.len ≤ 1000000
  how : G.how ∈ hows
end My
namespace My
open PySem PySem.Spec PyProof.Rows L2 GX GxR
theorem sIx_nat (n d j : Nat) : HT.sIx n d (some (j : Int)) = min j n := by
  show (if (j : Int) < 0 then ((j : Int) + (n : Int)).toNat else min (j : Int).toNat n) = min j n
  rw [if_neg (by omega), Int.toNat_natCast]
theorem cut_drop (xs : List V) (j : Nat) : cutV xs (some (j : Int)) none = xs.drop j := by
  unfold cutV
  rw [HT.sIx_none, sIx_nat]
  by_cases h : j ≤ xs.length
  · rw [Nat.min_eq_left h, List.take_of_length_le (by rw [List.length_drop]; exact Nat.le_refl _)]
  · rw [Nat.min_eq_right (by omega), Nat.sub_self, List.take_zero, List.drop_eq_nil_of_le (by omega)]
theorem cut_take (xs : List V) (j : Nat) : cutV xs none (some (j : Int)) = xs.take j := by
  unfold cutV
  rw [HT.sIx_none, sIx_nat, List.drop_zero, Nat.sub_zero]
  by_cases h : j ≤ xs.length
  · rw [Nat.min_eq_left h]
  · rw [Nat.min_eq_right (by omega), List.take_of_length_le (Nat.le_refl _), List.take_of_length_le (by omega)]
/-! guilds -/
structure GsOk (gs : List Str) : Prop where
  nd : gs.Nodup
  l1 : 1 ≤ gs.length
  l12 : gs.length ≤ 12
  str : ∀ z ∈ gs, PySem.PyData.strOk z = true
  len : ∀ z ∈ gs, z.length ≤ 8
/-! names of rows -/
def ten : Str := "abcdefghij"
def rowName (i : Nat) : Str := Txt.mul ⟨#[ten.cps.toList.getD (i / 6) 0]⟩ (1 + ((i % 6 : Nat) : Int))
def allNames : List Str := (List.range 60).map rowName
theorem names_ok1 : allNames.Nodup ∧ (∀ z ∈ allNames, PySem.PyData.strOk z = true ∧ z.length ≤ 8 ∧ z ∉ (["z", "aaaaaaa", "zed"] : List Str)) := by decide +kernel
theorem rowName_inj {i j : Nat} (hi : i < 60) (hj : j < 60) (h : rowName i = rowName j) : i = j := by
  have nd := names_ok1.1
  have gi : ∀ {i : Nat}, i < 60 → allNames[i]? = some (rowName i) := fun {i} hi => by
    unfold allNames
    rw [List.getElem?_map, List.getElem?_range hi]
    rfl
  have g1 := gi hi
  have g2 := gi hj
  rw [← h] at g2
  obtain ⟨l1, e1⟩ := List.getElem?_eq_some_iff.mp g1
  obtain ⟨l2, e2⟩ := List.getElem?_eq_some_iff.mp g2
  exact (List.getElem_inj nd).mp (e1.trans e2.symm)
theorem rowName_mem {i : Nat} (hi : i < 60) : rowName i ∈ allNames := List.mem_map.mpr ⟨i, List.mem_range.mpr hi, rfl⟩
/-! dues -/
def DueAt (H : Hp) (p : Key × V) (kv : Str × List Int) : Prop := p.1 = Sum.inr kv.1 ∧ ∃ a, p.2 = .ref a ∧ H a = some (.tup (kv.2.map V.int))
def DuesAt (H : Hp) (d : Addr) (kvs : List (Str × List Int)) : Prop := ∃ ps : List (Key × V), H d = some (.dK ps) ∧ Paired (DueAt H) ps kvs
theorem DueAt.kt {H H' : Hp} {p : Key × V} {kv : Str × List Int} (k : KTu H H') (h : DueAt H p kv) : DueAt H' p kv := by
  obtain ⟨e, a, h1, h2⟩ := h
  exact ⟨e, a, h1, k _ _ h2⟩
theorem DuesAt.kt {H H' : Hp} {d : Addr} {kvs : List (Str × List Int)} (k : KTu H H') (hd : ∀ o, H d = some o → H' d = some o) (h : DuesAt H d kvs) : DuesAt H' d kvs := by
  obtain ⟨ps, h1, h2⟩ := h
  exact ⟨ps, hd _ h1, h2.mono fun _ _ x => x.kt k⟩
theorem due_keys {H : Hp} : ∀ {ps : List (Key × V)} {kvs : List (Str × List Int)}, Paired (DueAt H) ps kvs → ps.map (·.1) = (kvs.map (·.1)).map Sum.inr
  | _, _, .nil => rfl
  | p :: ps, kv :: kvs, .cons h t => by
    rw [List.map_cons, List.map_cons, List.map_cons, due_keys t, h.1]
theorem keys_nd {gs : List Str} (h : gs.Nodup) : (gs.map (Sum.inr : Str → Key)).Nodup := by
  unfold List.Nodup at *
  rw [List.pairwise_map]
  exact h.imp fun hne z => hne (Sum.inr.inj z)
/-! rows -/
structure RowOk (gs : List Str) (wr : Nat) (i : Nat) (R : Gang × Int) : Prop where
  ok : GangOk gs wr R.1
  name : R.1.name = rowName i
  n0 : 0 ≤ R.2
  nm : R.2 % 100 = (i : Int)
  n1 : R.2 < 6100
def RowsOk (gs : List Str) (wr : Nat) (Rs : List (Gang × Int)) : Prop := Rs.length ≤ 60 ∧ ∀ i R, Rs[i]? = some R → RowOk gs wr i R
theorem RowsOk.snoc {gs : List Str} {wr : Nat} {Rs : List (Gang × Int)} {R : Gang × Int} (h : RowsOk gs wr Rs) (hl : Rs.length < 60) (r : RowOk gs wr Rs.length R) : RowsOk gs wr (Rs ++ [R]) := by
  refine ⟨by rw [List.length_append]; show Rs.length + 1 ≤ 60; omega, fun i R' e => ?_⟩
  by_cases z : i < Rs.length
  · rw [List.getElem?_append_left z] at e
    exact h.2 i R' e
  · rw [List.getElem?_append_right (by omega)] at e
    have hz : i - Rs.length = 0 := by
      obtain ⟨q, _⟩ := List.getElem?_eq_some_iff.mp e
      have : i - Rs.length < 1 := q
      omega
    rw [hz] at e
    cases e
    rw [show i = Rs.length by omega]
    exact r
/-- what stands while the state is drawn: H as it was at first, H' as it is -/
structure Drawn (H : Hp) (hb gl : Addr) (gs : List Str) (c : Int) (H' : Hp) : Prop where
  same : Same H H'
  box : BoxAt H' hb c
  gl : H' gl = some (.lst (gs.map V.str))
theorem same_kp {H H1 H2 : Hp} {b : Addr} (s : Same H H1) (n : H b = none) (k : Kp [b] H1 H2) : Same H H2 := fun x o e => k x o (fun z => by
  rw [List.mem_singleton.mp z, n] at e
  cases e) (s x o e)
theorem same_put {H H1 : Hp} {b : Addr} {o : HO} (s : Same H H1) (n : H b = none) : Same H (upd H1 b o) := fun x u e => by
  rw [upd_ne (ne_of_none e n)]
  exact s x u e
theorem Drawn.new {H H' H2 : Hp} {hb gl : Addr} {gs : List Str} {c : Int} (D : Drawn H hb gl gs c H') (s : Same H' H2) : Drawn H hb gl gs c H2 :=
  ⟨D.same.trans s, D.box.same s, s _ _ D.gl⟩
theorem Drawn.put {H H' : Hp} {hb gl p : Addr} {gs : List Str} {c : Int} {o : HO} (D : Drawn H hb gl gs c H') (n : H p = none) (n1 : p ≠ hb) (n2 : p ≠ gl) : Drawn H hb gl gs c (upd H' p o) := by
  refine ⟨same_put D.same n, ?_, by rw [upd_ne n2.symm]; exact D.gl⟩
  obtain ⟨xs, h1, h2⟩ := D.box
  exact ⟨xs, by rw [upd_ne n1.symm]; exact h1, h2⟩
theorem Drawn.le {H H' : Hp} {hb gl : Addr} {gs : List Str} {c c' : Int} (D : Drawn H hb gl gs c H') (h : c ≤ c') : Drawn H hb gl gs c' H' := ⟨D.same, D.box.le h, D.gl⟩
/-- the rows so far, at r -/
def RowsAt (H : Hp) (r : Addr) (Rs : List (Gang × Int)) : Prop := ∃ as : List Addr, H r = some (.lst (as.map V.ref)) ∧ Paired (RowAt H) as Rs
theorem RowsAt.kt {H H' : Hp} {r : Addr} {Rs : List (Gang × Int)} (k : KTu H H') (hr : ∀ o, H r = some o → H' r = some o) (h : RowsAt H r Rs) : RowsAt H' r Rs := by
  obtain ⟨as, h1, h2⟩ := h
  exact ⟨as, hr _ h1, h2.mono fun _ _ x => x.kt k⟩
/-- what the state is: its dues, its rows, its gang -/
structure StateAt (H' : Hp) (d r g : Addr) (gs : List Str) (wr : Nat) (kvs : List (Str × List Int)) (Rs : List (Gang × Int)) (G : Gang) : Prop where
  gsok : GsOk gs
  w1 : 1 ≤ wr
  w8 : wr ≤ 8
  dues : DuesAt H' d kvs
  keys : kvs.map (·.1) = gs
  amts : ∀ kv ∈ kvs, Amt kv.2 ∧ kv.2.length = wr
  rows : RowsAt H' r Rs
  rok : RowsOk gs wr Rs
  gang : GangAt H' g G
  gok : GangOk gs wr G
  gname : G.name ∈ (["z", "aaaaaaa", "zed"] : List Str)
/-- a pair (guild, due) -/
def PairAt (H : Hp) (p : Addr) (kv : Str × List Int) : Prop := ∃ a, H p = some (.tup [.str kv.1, .ref a]) ∧ H a = some (.tup (kv.2.map V.int))
theorem PairAt.kt {H H' : Hp} {p : Addr} {kv : Str × List Int} (k : KTu H H') (h : PairAt H p kv) : PairAt H' p kv := by
  obtain ⟨a, h1, h2⟩ := h
  exact ⟨a, k _ _ h1, k _ _ h2⟩
def GangsAt (gs : List Str) (wr : Nat) (H : Hp) (ds : List Addr) : Prop := ∀ x ∈ ds, ∃ G, GangAt H x G ∧ GangOk gs wr G
theorem GangsAt.kt {gs : List Str} {wr : Nat} {H H' : Hp} {ds : List Addr} (k : KTu H H') (h : GangsAt gs wr H ds) : GangsAt gs wr H' ds := fun x hx => by
  obtain ⟨G, h1, h2⟩ := h x hx
  exact ⟨G, h1.kt k, h2⟩
theorem paired_get {α β : Type} {R : α → β → Prop} : ∀ {xs : List α} {ys : List β}, Paired R xs ys → ∀ {i : Nat} {x : α}, xs[i]? = some x → ∃ y, ys[i]? = some y ∧ R x y
  | _, _, .nil, _, _, h => by simp at h
  | x :: xs, y :: ys, .cons r t, 0, z, h => by
    cases h
    exact ⟨y, rfl, r⟩
  | x :: xs, y :: ys, .cons r t, i + 1, z, h => paired_get t (i := i) (by simpa using h)
theorem paired_get2 {α β : Type} {R : α → β → Prop} : ∀ {xs : List α} {ys : List β}, Paired R xs ys → ∀ {i : Nat} {y : β}, ys[i]? = some y → ∃ x, xs[i]? = some x ∧ R x y
  | _, _, .nil, _, _, h => by simp at h
  | x :: xs, y :: ys, .cons r t, 0, z, h => by
    cases h
    exact ⟨x, rfl, r⟩
  | x :: xs, y :: ys, .cons r t, i + 1, z, h => paired_get2 t (i := i) (by simpa using h)
theorem map_get {α : Type} {f : α → V} {xs : List α} {i : Nat} {v : V} (h : (xs.map f)[i]? = some v) : ∃ x, xs[i]? = some x ∧ v = f x := by
  rw [List.getElem?_map] at h
  cases e : xs[i]? with
  | none => rw [e] at h; cases h
  | some x =>
    rw [e] at h
    exact ⟨x, rfl, (Option.some.inj h).symm⟩
theorem small63 {n : Nat} (h : n ≤ 900) : n < sizeLine := small1000 (by omega)
end My
namespace My
open PySem PySem.Spec PyProof.Rows L2 GX GxR
/-! the same, as the gangs' laws say it -/
def Lf (x y : V) : Prop := (∃ b, x = .bl b ∧ y = .bl b) ∨ (∃ i, x = .int i ∧ y = .int i) ∨ (∃ z, x = .str z ∧ y = .str z)
def Sm (H : Hp) : Nat → V → V → Prop
  | 0, x, y => Lf x y
  | n + 1, x, y => Lf x y ∨ ∃ (a b : Addr) (xs ys : List V), x = .ref a ∧ y = .ref b ∧ ((H a = some (.lst xs) ∧ H b = some (.lst ys)) ∨ (H a = some (.tup xs) ∧ H b = some (.tup ys))) ∧ xs.length = ys.length ∧ xs.length < 100000 ∧
      ∀ (i : Nat) (x y : V), xs[i]? = some x → ys[i]? = some y → Sm H n x y
theorem Sm.same {H H' : Hp} (e : Same H H') : ∀ (n : Nat) (x y : V), Sm H n x y → Sm H' n x y
  | 0, _, _, h => h
  | n + 1, x, y, h => by
    rcases h with h | ⟨a, b, xs, ys, e1, e2, h, hl, hl2, k⟩
    · exact .inl h
    · refine .inr ⟨a, b, xs, ys, e1, e2, ?_, hl, hl2, fun i x y h1 h2 => Sm.same e n x y (k i x y h1 h2)⟩
      rcases h with ⟨h1, h2⟩ | ⟨h1, h2⟩
      · exact .inl ⟨e _ _ h1, e _ _ h2⟩
      · exact .inr ⟨e _ _ h1, e _ _ h2⟩
end My
namespace My
open PySem PySem.Spec PyProof.Rows L2 GX GxR
/-- what all tasks of a gang want -/
def Gang.whole (G : Gang) : List Int := G.want.map (· * G.many)
def spTimesS (K : PySem.W.Frag) : Sp := fun vs H Q _ => ∃ (a : Addr) (n : Int) (xs : List Int), vs = [.ref a, .int n] ∧ SqT K H a (xs.map V.int) ∧ xs.length ≤ 1000 ∧ 0 ≤ n ∧ n ≤ 1000000000 ∧
  ∀ p H', Same H H' → H p = none → H' p = some (.tup ((xs.map (· * n)).map V.int)) → Q (.ref p) H'
def spLaw (K : PySem.W.Frag) (Ts : List Addr) : Sp := fun vs H Q _ => ∃ (a : Addr) (ns : List Int), vs = [.ref a] ∧ SqL K H a (ns.map V.int) ∧ ns.length ≤ 63 ∧ (∀ T ∈ Ts, TabG H T) ∧ ∀ H', Q (.bl true) H'
end My
namespace My
open PySem PySem.W PySem.Spec PyProof.Rows L2
theorem each_vals : ∀ {xs : List V} {us : List Value}, Vals xs us → EachIs (fun v x => RelV x v) us xs
  | _, _, .nil => .nil
  | _, _, .cons r t => .cons r (each_vals t)
theorem vals_each : ∀ {us : List Value} {xs : List V}, EachIs (fun v x => RelV x v) us xs → Vals xs us
  | _, _, .nil => .nil
  | _, _, .cons r t => .cons r (vals_each t)
end My
namespace My
open PySem PySem.Spec PyProof.Rows L2 RT
end My
namespace My
open PySem PySem.W PySem.Spec PyProof.Rows L2
section
variable {X : Cx}
theorem shaped_plain {d : PyData} (h : SeqAt.shaped d = true) : d.plain = true := PyData.plain_of_canLay0 d (SeqAt.canLay_of_shaped h)
/-- sorted(xs), xs a list of data that are alike -/
def rSortD (K : PySem.W.Frag) : List V → Hp → VK → Prop := fun vs H Q => ∃ (a : Addr) (xs : List V) (enc : V → PyData), vs = [.ref a] ∧ SqL K H a xs ∧ (∀ x ∈ xs, Dp K H x (enc x)) ∧ AllAlike (xs.map enc) ∧ Sortable (xs.map enc) ∧ (∀ x ∈ xs, (enc x).depth ≤ 60) ∧
  ∀ p, H p = none → Q (.ref p) (upd H p (.lst (xs.mergeSort (dataLe false enc))))
theorem cr_sortD (hu : X.A.units + 64 < cLine) : CallR X (.builtin "sorted") (rSortD X.K) := by
  intro pins s σ H vs us Q I r h
  obtain ⟨a, xs, enc, rfl, hs, hd, hal, hso, hdp, q⟩ := h
  obtain ⟨its, rv, hl, hz⟩ := I.list hs
  rw [Vals.ref1 r]
  have er : ∀ {xs : List V} {its : List Value}, (∀ x ∈ xs, Dp X.K H x (enc x)) → Vals xs its → EachIs (fun v b => ∃ as, Reads s.heap v (enc b) as) its xs := by
    intro xs its hd rv
    induction rv with
    | nil => exact .nil
    | cons r t ih => exact .cons (Dp.reads I _ _ _ (hd _ List.mem_cons_self) r) (ih fun x hx => hd x (List.mem_cons_of_mem _ hx))
  refine sorted_data hl.isList (each_vals rv) (er hd rv) hal hso hz (fun x hx => ?_) fun out ho eo => ?_
  · have := hdp x hx
    omega
  obtain ⟨ep, at1⟩ := sortedAll_at s.heap its out.toArray
  refine ⟨.ref _, upd H (s.heap.objs.size + 1) (.lst (xs.mergeSort (dataLe false enc))), I.laid (t' := s.toks) (fun _ _ => sortedAll_old) (Nat.le_succ _) ⟨?_, out, ep, vals_each eo, at1⟩, rfl, q _ (I.hok.fresh (Nat.le_succ _))⟩
  rw [List.length_mergeSort]
  exact hz
end
end My
namespace My
open PySem PySem.W PySem.Spec PyProof.Rows L2 GX GxR
/-! the order of rows -/
def rowLe (R S : Gang × Int) : Bool := decide (-R.1.rank < -S.1.rank ∨ (-R.1.rank = -S.1.rank ∧ R.2 ≤ S.2))
def ord (Rs : List (Gang × Int)) : List (Gang × Int) := Rs.mergeSort rowLe
theorem uniq_sorted {α : Type} {le : α → α → Bool} : ∀ {xs ys : List α}, xs.Perm ys → xs.Pairwise (fun a b => le a b = true) → ys.Pairwise (fun a b => le a b = true) → (∀ a ∈ xs, ∀ b ∈ xs, le a b = true → le b a = true → a = b) → xs = ys
  | [], ys, p, _, _, _ => (List.nil_perm.mp p).symm ▸ rfl
  | x :: xs, [], p, _, _, _ => absurd p.length_eq (by simp)
  | x :: xs, y :: ys, p, hx, hy, anti => by
    have hxy : x = y := by
      have h1 : x ∈ y :: ys := p.mem_iff.mp List.mem_cons_self
      have h2 : y ∈ x :: xs := p.mem_iff.mpr List.mem_cons_self
      rcases List.mem_cons.mp h1 with e | h1
      · exact e
      · rcases List.mem_cons.mp h2 with e | h2
        · exact e.symm
        · exact anti x List.mem_cons_self y (List.mem_cons_of_mem _ h2) ((List.pairwise_cons.mp hx).1 y h2) ((List.pairwise_cons.mp hy).1 x h1)
    subst hxy
    rw [uniq_sorted (List.Perm.cons_inv p) (List.pairwise_cons.mp hx).2 (List.pairwise_cons.mp hy).2 fun a ha b hb => anti a (List.mem_cons_of_mem _ ha) b (List.mem_cons_of_mem _ hb)]
/-- what a gang of a row is, for the laws' own reckoning -/
structure Fit (R : Gang × Int) : Prop where
  name : PySem.PyData.strOk R.1.name = true
  guild : PySem.PyData.strOk R.1.guild = true
  how : PySem.PyData.strOk R.1.how = true
  wlen : R.1.want.length ≤ 8
  amt : Amt R.1.want
  m0 : 0 ≤ R.1.many
  m60 : R.1.many ≤ 60
structure Good2 (Rs : List (Gang × Int)) : Prop where
  fit : ∀ R ∈ Rs, Fit R
  names : (Rs.map (·.1.name)).Nodup
  nums : (Rs.map (·.2)).Nodup
  len : Rs.length ≤ 100
theorem nodup_inj {α β : Type} {f : α → β} : ∀ {xs : List α}, (xs.map f).Nodup → ∀ a ∈ xs, ∀ b ∈ xs, f a = f b → a = b
  | [], _, _, h, _, _, _ => nomatch h
  | x :: xs, nd, a, ha, b, hb, e => by
    rw [List.map_cons, List.nodup_cons] at nd
    rcases List.mem_cons.mp ha with za | ha
    · rcases List.mem_cons.mp hb with zb | hb
      · rw [za, zb]
      · rw [za] at e
        exact absurd (List.mem_map.mpr ⟨b, hb, e.symm⟩) nd.1
    · rcases List.mem_cons.mp hb with zb | hb
      · rw [zb] at e
        exact absurd (List.mem_map.mpr ⟨a, ha, e⟩) nd.1
      · exact nodup_inj nd.2 a ha b hb e
theorem Good2.sub {Rs Ss : List (Gang × Int)} (h : Good2 Rs) (p : Ss.Sublist Rs) : Good2 Ss :=
  ⟨fun R hR => h.fit R (p.subset hR), (p.map (·.1.name)).nodup h.names, (p.map (·.2)).nodup h.nums, Nat.le_trans p.length_le h.len⟩
/-! rows as data -/
theorem dp_ints {K : PySem.W.Frag} {H : Hp} : ∀ ns : List Int, DpAll K H (ns.map V.int) (ns.map PyData.int)
  | [] => .nil
  | n :: ns => .cons (.int n) (dp_ints ns)
theorem dpt_ints (ns : List Int) : PyData.depthAll (ns.map PyData.int) = 0 := depth_ints ns
/-! rows of the state -/
theorem hows_ok : ∀ z ∈ hows, PySem.PyData.strOk z = true := by decide +kernel
theorem fit_of {gs : List Str} {wr : Nat} {G : Gang} {n : Int} (ok : GangOk gs wr G) (g : GsOk gs) (w8 : wr ≤ 8) (hn : PySem.PyData.strOk G.name = true) : Fit (G, n) :=
  ⟨hn, g.str _ ok.guild, hows_ok _ ok.how, by show G.want.length ≤ 8; rw [ok.wlen]; exact w8, ok.amt, by have := ok.m1; show 0 ≤ G.many; omega, ok.m60⟩
theorem good_state {gs : List Str} {wr : Nat} {Rs : List (Gang × Int)} (g : GsOk gs) (w8 : wr ≤ 8) (h : RowsOk gs wr Rs) : Good2 Rs := by
  obtain ⟨hl, h⟩ := h
  have at_ : ∀ {i : Nat} (hi : i < Rs.length), RowOk gs wr i Rs[i] := fun {i} hi => h i _ (List.getElem?_eq_getElem hi)
  refine ⟨fun R hR => ?_, ?_, ?_, by omega⟩
  · obtain ⟨i, hi, rfl⟩ := List.mem_iff_getElem.mp hR
    have q := at_ hi
    exact fit_of (G := Rs[i].1) (n := Rs[i].2) q.ok g w8 (by rw [q.name]; exact (names_ok1.2 _ (rowName_mem (by omega))).1)
  · rw [List.Nodup, List.pairwise_iff_getElem]
    intro i j hi hj hij z
    rw [List.length_map] at hi hj
    rw [List.getElem_map, List.getElem_map, (at_ hi).name, (at_ hj).name] at z
    have := rowName_inj (by omega) (by omega) z
    omega
  · rw [List.Nodup, List.pairwise_iff_getElem]
    intro i j hi hj hij z
    rw [List.length_map] at hi hj
    rw [List.getElem_map, List.getElem_map] at z
    have a := (at_ hi).nm
    have b := (at_ hj).nm
    rw [z, b] at a
    omega
end My
namespace My
open PySem PySem.W PySem.Spec PyProof.Rows L2 GX GxR
/-! two lists, as a list of pairs -/
theorem paired_zip {α β : Type} {R : α → β → Prop} : ∀ {xs : List α} {ys : List β}, Paired R xs ys → ∃ ps : List (α × β), ps.map (·.1) = xs ∧ ps.map (·.2) = ys ∧ ∀ p ∈ ps, R p.1 p.2
  | _, _, .nil => ⟨[], rfl, rfl, fun _ h => nomatch h⟩
  | x :: xs, y :: ys, .cons r t => by
    obtain ⟨ps, h1, h2, h3⟩ := paired_zip t
    refine ⟨(x, y) :: ps, by rw [List.map_cons, h1], by rw [List.map_cons, h2], fun p hp => ?_⟩
    rcases List.mem_cons.mp hp with z | z
    · rw [z]
      exact r
    · exact h3 p z
theorem paired_of {α β : Type} {R : α → β → Prop} : ∀ {ps : List (α × β)}, (∀ p ∈ ps, R p.1 p.2) → Paired R (ps.map (·.1)) (ps.map (·.2))
  | [], _ => .nil
  | p :: ps, h => .cons (h p List.mem_cons_self) (paired_of fun q hq => h q (List.mem_cons_of_mem _ hq))
/-! keys of rows -/
theorem RowAt.same {H H' : Hp} {r : Addr} {R : Gang × Int} (s : Same H H') (h : RowAt H r R) : RowAt H' r R := h.kt (Same.kt s)
theorem GangAt.same {H H' : Hp} {r : Addr} {R : Gang} (s : Same H H') (h : GangAt H r R) : GangAt H' r R := h.kt (Same.kt s)
end My
namespace My
open PySem PySem.W PySem.Spec PyProof.Rows L2 GX GxR
theorem ints_inj : ∀ {xs ys : List Int}, xs.map V.int = ys.map V.int → xs = ys
  | [], [], _ => rfl
  | [], _ :: _, h => by cases h
  | _ :: _, [], h => by cases h
  | x :: xs, y :: ys, h => by
    rw [List.map_cons, List.map_cons] at h
    injection h with h1 h2
    injection h1 with h1
    rw [h1, ints_inj h2]
theorem alike_ints2 : ∀ xs ys : List Int, alikeAll (xs.map PyData.int) (ys.map PyData.int) = true := alike_ints
/-- a list of the same rows, in some order -/
def Like (H : Hp) (Rs : List (Gang × Int)) (b : Addr) : Prop := ∃ (as : List Addr) (Ss : List (Gang × Int)), H b = some (.lst (as.map V.ref)) ∧ Paired (RowAt H) as Ss ∧ Ss.Perm Rs
theorem Like.same {H H' : Hp} {Rs : List (Gang × Int)} {b : Addr} (s : Same H H') (h : Like H Rs b) : Like H' Rs b := by
  obtain ⟨as, Ss, h1, h2, h3⟩ := h
  exact ⟨as, Ss, s _ _ h1, h2.mono fun _ _ x => x.same s, h3⟩
end My
namespace My
open PySem PySem.W PySem.Spec PyProof.Rows L2 GX GxR
/-! tables of generator expressions -/
def Tabs (Ts : List Addr) (H : Hp) : Prop := ∀ T ∈ Ts, TabG H T
structure Fw (Ts : List Addr) (H H' : Hp) : Prop where
  kp : Kp Ts H H'
  tabs : Tabs Ts H'
section
variable {Ts : List Addr} {H H1 H2 : Hp}
theorem Fw.refl (t : Tabs Ts H) : Fw Ts H H := ⟨Kp.refl _ _, t⟩
theorem Fw.trans (f : Fw Ts H H1) (g : Fw Ts H1 H2) : Fw Ts H H2 := ⟨f.kp.trans g.kp, g.tabs⟩
theorem Fw.same (t : Tabs Ts H) (s : Same H H1) : Fw Ts H H1 := ⟨Same.kp _ s, fun T h => TabG.same s (t T h)⟩
theorem Fw.then (f : Fw Ts H H1) (s : Same H1 H2) : Fw Ts H H2 := f.trans (Fw.same f.tabs s)
theorem Fw.step (t : Tabs Ts H) {T : Addr} (h : T ∈ Ts) (k : Kp [T] H H1) (g : TabG H1 T) : Fw Ts H H1 := by
  refine ⟨k.mono fun x hx => by rw [List.mem_singleton.mp hx]; exact h, fun T' h' => ?_⟩
  by_cases z : T' = T
  · rw [z]
    exact g
  · exact TabG.kp k (fun q => z (List.mem_singleton.mp q)) (t T' h')
theorem tab_off {x : Addr} {o : HO} (t : Tabs Ts H) (h : H x = some o) (no : ∀ ps, o ≠ .tbl ps) : x ∉ Ts := fun z => tab_ne (t x z) h no rfl
theorem Fw.obj (t : Tabs Ts H) (f : Fw Ts H H1) {x : Addr} {o : HO} (h : H x = some o) (no : ∀ ps, o ≠ .tbl ps) : H1 x = some o := f.kp _ _ (tab_off t h no) h
theorem Fw.lst (t : Tabs Ts H) (f : Fw Ts H H1) {x : Addr} {xs : List V} (h : H x = some (.lst xs)) : H1 x = some (.lst xs) := f.obj t h fun ps z => by cases z
theorem Fw.kt (t : Tabs Ts H) (f : Fw Ts H H1) : KTu H H1 := fun x xs h => f.obj t h fun ps z => by cases z
theorem Fw.free (t : Tabs Ts H) (f : Fw Ts H H1) {x : Addr} (h : H1 x = none) : H x = none := by
  cases e : H x with
  | none => rfl
  | some o =>
    by_cases z : x ∈ Ts
    · obtain ⟨ps, h1, _⟩ := f.tabs x z
      rw [h1] at h
      cases h
    · rw [f.kp _ _ z e] at h
      cases h
theorem Fw.put (t : Tabs Ts H) (f : Fw Ts H H1) {x : Addr} {o : HO} (n : H x = none) : Fw Ts H (upd H1 x o) := by
  have nT : x ∉ Ts := fun z => by
    obtain ⟨ps, h1, _⟩ := t x z
    rw [h1] at n
    cases n
  refine ⟨fun y u ny e => ?_, fun T hT => ?_⟩
  · rw [upd_ne (ne_of_none e n)]
    exact f.kp _ _ ny e
  · obtain ⟨ps, h1, h2⟩ := f.tabs T hT
    exact ⟨ps, by rw [upd_ne (fun z => nT (by rw [← z]; exact hT))]; exact h1, h2⟩
theorem Fw.seqL {K : PySem.W.Frag} (t : Tabs Ts H) (f : Fw Ts H H1) {a : Addr} {xs : List V} (h : SqL K H a xs) : SqL K H1 a xs := by
  rcases h with (h | ⟨o, h⟩) | h
  · exact .inl (.inl (f.lst t h))
  · exact .inl (.inr ⟨o, f.obj t h fun ps z => by cases z⟩)
  · exact .inr h
theorem Fw.seqT {K : PySem.W.Frag} (t : Tabs Ts H) (f : Fw Ts H H1) {a : Addr} {xs : List V} (h : SqT K H a xs) : SqT K H1 a xs := by
  rcases h with (h | ⟨o, h⟩) | h
  · exact .inl (.inl (f.kt t _ _ h))
  · exact .inl (.inr ⟨o, f.obj t h fun ps z => by cases z⟩)
  · exact .inr h
end
/-! a guild's own ones and the lent -/
def fitB (xs ys : List Int) : Bool := (List.zipWith (fun a b : Int => decide (a ≤ b)) xs ys).all _root_.id
theorem zip_bl {g : V → V → V} {op : Int → Int → Bool} (h : ∀ i j, g (.int i) (.int j) = .bl (op i j)) : ∀ xs ys : List Int, (((xs.map V.int).zip (ys.map V.int)).map fun v => g v.1 v.2) = (List.zipWith op xs ys).map V.bl
  | [], _ => rfl
  | _ :: _, [] => rfl
  | x :: xs, y :: ys => by
    show g (.int x) (.int y) :: (((xs.map V.int).zip (ys.map V.int)).map fun v => g v.1 v.2) = .bl (op x y) :: (List.zipWith op xs ys).map V.bl
    rw [h, zip_bl h xs ys]
def spFits (K : PySem.W.Frag) (T : Addr) : Sp := fun vs H Q _ => ∃ (a b : Addr) (xs ys : List Int), vs = [.ref a, .ref b] ∧ SqT K H a (xs.map V.int) ∧ SqT K H b (ys.map V.int) ∧ TabG H T ∧ ∀ H', TabG H' T → Kp [T] H H' → Q (.bl (fitB xs ys)) H'
def addL (xs ys : List Int) : List Int := List.zipWith (· + ·) xs ys
def zeros (n : Nat) : List Int := List.replicate n 0
/-- in turn: own where it fits with those ahead, else lent; and what the own ones come to -/
def partA (dn : List Int) : List Gang → List Gang → List Gang → List Int → List Gang × List Gang × List Int
  | [], o, l, ld => (o, l, ld)
  | G :: Gs, o, l, ld => if fitB (addL ld G.whole) dn = true then partA dn Gs (o ++ [G]) l (addL ld G.whole) else partA dn Gs o (l ++ [G]) ld
def partRs (dn : List Int) (Rs : List (Gang × Int)) : List Gang × List Gang × List Int := partA dn ((ord Rs).map (·.1)) [] [] (zeros dn.length)
structure PIn (K : PySem.W.Frag) (H : Hp) (du a : Addr) (dn : List Int) (as : List Addr) (Rs : List (Gang × Int)) : Prop where
  due : SqT K H du (dn.map V.int)
  d1 : 1 ≤ dn.length
  d8 : dn.length ≤ 8
  rows : SqL K H a (as.map V.ref)
  prs : Paired (RowAt H) as Rs
  good : Good2 Rs
  wlen : ∀ R ∈ Rs, R.1.want.length = dn.length
theorem PIn.same {K : PySem.W.Frag} {H H' : Hp} {du a : Addr} {dn : List Int} {as : List Addr} {Rs : List (Gang × Int)} (s : Same H H') (h : PIn K H du a dn as Rs) : PIn K H' du a dn as Rs :=
  ⟨same_seqT s h.due, h.d1, h.d8, s.seq h.rows, h.prs.mono fun _ _ x => x.same s, h.good, h.wlen⟩
theorem PIn.fw {K : PySem.W.Frag} {Ts : List Addr} {H H' : Hp} {du a : Addr} {dn : List Int} {as : List Addr} {Rs : List (Gang × Int)} (t : Tabs Ts H) (f : Fw Ts H H') (h : PIn K H du a dn as Rs) : PIn K H' du a dn as Rs :=
  ⟨f.seqT t h.due, h.d1, h.d8, f.seqL t h.rows, h.prs.mono fun _ _ x => x.kt (f.kt t), h.good, h.wlen⟩
end My
namespace My
open PySem PySem.W PySem.Spec PyProof.Rows L2 GX GxR
theorem valV_get {κ : Type} [DecidableEq κ] : ∀ {ps : List (κ × V)} {i : Nat} {k : κ} {v : V}, (ps.map (·.1)).Nodup → ps[i]? = some (k, v) → valV ps k = some v
  | [], _, _, _, _, h => by simp at h
  | p :: ps, 0, k, v, _, h => by
    cases h
    exact valV_pos rfl
  | p :: ps, i + 1, k, v, nd, h => by
    have h' : ps[i]? = some (k, v) := by simpa using h
    rw [List.map_cons, List.nodup_cons] at nd
    rw [valV_neg fun z => nd.1 (List.mem_map.mpr ⟨(k, v), List.mem_of_getElem? h', z.symm⟩)]
    exact valV_get nd.2 h'
theorem valV_due {H : Hp} {ps : List (Key × V)} {kvs : List (Str × List Int)} (h : Paired (DueAt H) ps kvs) (nd : (kvs.map (·.1)).Nodup) {z : Str} (hz : z ∈ kvs.map (·.1)) : ∃ (a : Addr) (ns : List Int), valV ps (Sum.inr z) = some (.ref a) ∧ (z, ns) ∈ kvs ∧ H a = some (.tup (ns.map V.int)) := by
  obtain ⟨kv, hkv, rfl⟩ := List.mem_map.mp hz
  obtain ⟨i, hi⟩ := List.mem_iff_getElem?.mp hkv
  obtain ⟨p, hp, e, a, h1, h2⟩ := paired_get2 h hi
  have np : (ps.map (·.1)).Nodup := by
    rw [due_keys h]
    exact keys_nd nd
  have hp' : ps[i]? = some (Sum.inr kv.1, .ref a) := by
    rw [hp, ← e, ← h1]
  exact ⟨a, kv.2, valV_get np hp', hkv, h2⟩
theorem dgetR {H : Hp} {d : Addr} {ps : List (Key × V)} {z : Str} {v : V} (h : Rd H d (.dK ps)) (e : valV ps (Sum.inr z) = some v) : DGet H d (.str z) (some v) := .inl ⟨ps, Sum.inr z, h, rfl, e.symm⟩
end My
namespace My
open PySem PySem.W PySem.Spec PyProof.Rows L2 GX GxR
/-! what is borne from a time to a time, and the turns of it -/
structure Bw where
  key : Str
  b : Int
  e : Int
  am : List Int
structure Tn where
  t : Int
  k : Int
  am : List Int
def BwAt (H : Hp) (r : Addr) (x : Bw) : Prop := ∃ p, H r = some (.tup [.str x.key, .int x.b, .int x.e, .ref p]) ∧ H p = some (.tup (x.am.map V.int))
def TnAt (H : Hp) (r : Addr) (x : Tn) : Prop := ∃ p, H r = some (.tup [.int x.t, .int x.k, .ref p]) ∧ H p = some (.tup (x.am.map V.int))
theorem BwAt.kt {H H' : Hp} {r : Addr} {x : Bw} (k : KTu H H') (h : BwAt H r x) : BwAt H' r x := by
  obtain ⟨p, h1, h2⟩ := h
  exact ⟨p, k _ _ h1, k _ _ h2⟩
theorem TnAt.kt {H H' : Hp} {r : Addr} {x : Tn} (k : KTu H H') (h : TnAt H r x) : TnAt H' r x := by
  obtain ⟨p, h1, h2⟩ := h
  exact ⟨p, k _ _ h1, k _ _ h2⟩
def begT (x : Bw) : Tn := ⟨x.b, 1, x.am⟩
def endT (x : Bw) : Tn := ⟨x.e, 0, x.am⟩
def turns (rs : List Bw) : List Tn := rs.map begT ++ rs.map endT
/-- rows as they may be -/
structure BwOk (w : Nat) (rs : List Bw) : Prop where
  few : rs.length ≤ 200
  lt : ∀ x ∈ rs, x.b < x.e
  len : ∀ x ∈ rs, x.am.length = w
def colT (j : Nat) (x : Tn) : Int := if x.k = 1 then x.am.getD j 0 else - x.am.getD j 0
def sumT (w : Nat) (us : List Tn) : List Int := (List.range w).map fun j => (us.map (colT j)).sum
def liveAt (t : Int) (x : Bw) : Bool := decide (x.b ≤ t ∧ t < x.e)
def netB (w : Nat) (rs : List Bw) (t : Int) : List Int := (List.range w).map fun j => ((rs.filter (liveAt t)).map fun x => x.am.getD j 0).sum
theorem sumT_len (w : Nat) (us : List Tn) : (sumT w us).length = w := by unfold sumT; rw [List.length_map, List.length_range]
theorem netB_len (w : Nat) (rs : List Bw) (t : Int) : (netB w rs t).length = w := by unfold netB; rw [List.length_map, List.length_range]
theorem perm_sum {xs ys : List Int} (h : xs.Perm ys) : xs.sum = ys.sum := by
  induction h with
  | nil => rfl
  | cons x _ ih => rw [List.sum_cons, List.sum_cons, ih]
  | swap x y l =>
    simp only [List.sum_cons]
    omega
  | trans _ _ a b => exact a.trans b
theorem sumT_nil (w : Nat) : sumT w [] = List.replicate w 0 := by
  unfold sumT
  apply List.ext_getElem
  · simp
  · intro i h1 h2
    simp
theorem sumT_add {w : Nat} {us : List Tn} {u : Tn} (h : u.k = 1) (hl : u.am.length = w) : List.zipWith (· + ·) (sumT w us) u.am = sumT w (us ++ [u]) := by
  apply List.ext_getElem
  · rw [List.length_zipWith, sumT_len, sumT_len, hl, Nat.min_self]
  · intro i h1 h2
    rw [sumT_len] at h2
    simp [sumT, colT, h, show i < u.am.length by omega]
theorem sumT_sub {w : Nat} {us : List Tn} {u : Tn} (h : u.k ≠ 1) (hl : u.am.length = w) : List.zipWith (· - ·) (sumT w us) u.am = sumT w (us ++ [u]) := by
  apply List.ext_getElem
  · rw [List.length_zipWith, sumT_len, sumT_len, hl, Nat.min_self]
  · intro i h1 h2
    rw [sumT_len] at h2
    simp [sumT, colT, h, show i < u.am.length by omega]
    omega
/-- what the turns up to t leave is what is borne at t -/
theorem col_eq (j : Nat) (t : Int) : ∀ rs : List Bw, (∀ x ∈ rs, x.b < x.e) → (((turns rs).filter fun u => decide (u.t ≤ t)).map (colT j)).sum = ((rs.filter (liveAt t)).map fun x => x.am.getD j 0).sum := by
  intro rs
  unfold turns
  rw [List.filter_append, List.map_append, List.sum_append]
  induction rs with
  | nil => intro _; rfl
  | cons x rs ih =>
    intro h
    have ih := ih fun y hy => h y (List.mem_cons_of_mem _ hy)
    have hx := h x List.mem_cons_self
    simp only [List.map_cons, List.filter_cons]
    have e1 : (begT x).t = x.b := rfl
    have e2 : (endT x).t = x.e := rfl
    have c1 : colT j (begT x) = x.am.getD j 0 := by simp [colT, begT]
    have c2 : colT j (endT x) = - x.am.getD j 0 := by simp [colT, endT]
    unfold liveAt at ih ⊢
    rw [e1, e2]
    by_cases a1 : x.b ≤ t <;> by_cases a2 : x.e ≤ t
    · have a3 : decide (x.b ≤ t ∧ t < x.e) = false := decide_eq_false (by omega)
      rw [a3, decide_eq_true a1, decide_eq_true a2, if_pos rfl, if_pos rfl, if_neg Bool.false_ne_true, List.map_cons, List.map_cons, List.sum_cons, List.sum_cons, c1, c2]
      omega
    · have a3 : decide (x.b ≤ t ∧ t < x.e) = true := decide_eq_true (by omega)
      rw [a3, decide_eq_true a1, decide_eq_false a2, if_pos rfl, if_pos rfl, if_neg Bool.false_ne_true, List.map_cons, List.map_cons, List.sum_cons, List.sum_cons, c1]
      omega
    · exact absurd a2 (by omega)
    · have a3 : decide (x.b ≤ t ∧ t < x.e) = false := decide_eq_false (by omega)
      rw [a3, decide_eq_false a1, decide_eq_false a2, if_neg Bool.false_ne_true, if_neg Bool.false_ne_true, if_neg Bool.false_ne_true]
      exact ih
theorem net_eq {w : Nat} {rs : List Bw} {us : List Tn} (h : ∀ x ∈ rs, x.b < x.e) (p : us.Perm (turns rs)) (t : Int) : sumT w (us.filter fun u => decide (u.t ≤ t)) = netB w rs t := by
  unfold sumT netB
  refine List.map_congr_left fun j _ => ?_
  rw [← col_eq j t rs h]
  exact perm_sum ((p.filter _).map _)
/-- times in order: all begins and ends, each once -/
def Srt (rs : List Bw) (ks : List Int) : Prop := ks.Pairwise (· < ·) ∧ ∀ t, t ∈ ks ↔ ∃ x ∈ rs, x.b = t ∨ x.e = t
theorem sorted_ext : ∀ {xs ys : List Int}, xs.Pairwise (· < ·) → ys.Pairwise (· < ·) → (∀ t, t ∈ xs ↔ t ∈ ys) → xs = ys
  | [], [], _, _, _ => rfl
  | [], y :: ys, _, _, h => nomatch (h y).mpr List.mem_cons_self
  | x :: xs, [], _, _, h => nomatch (h x).mp List.mem_cons_self
  | x :: xs, y :: ys, h1, h2, h => by
    rw [List.pairwise_cons] at h1 h2
    have e : x = y := by
      rcases List.mem_cons.mp ((h x).mp List.mem_cons_self) with z | z
      · exact z
      · rcases List.mem_cons.mp ((h y).mpr List.mem_cons_self) with z' | z'
        · exact z'.symm
        · have := h1.1 y z'
          have := h2.1 x z
          omega
    subst e
    rw [sorted_ext h1.2 h2.2 fun t => ?_]
    constructor
    · intro ht
      rcases List.mem_cons.mp ((h t).mp (List.mem_cons_of_mem _ ht)) with z | z
      · have := h1.1 t ht
        omega
      · exact z
    · intro ht
      rcases List.mem_cons.mp ((h t).mpr (List.mem_cons_of_mem _ ht)) with z | z
      · have := h2.1 t ht
        omega
      · exact z
theorem Srt.uniq {rs : List Bw} {ks ls : List Int} (h : Srt rs ks) (h' : Srt rs ls) : ks = ls := sorted_ext h.1 h'.1 fun t => (h.2 t).trans (h'.2 t).symm
/-- more is borne at t than there is room for -/
def ovr (w : Nat) (rs : List Bw) (room : List Int) (t : Int) : Bool := !fitB (netB w rs t) room
def oI : Option Int → V
  | some t => .int t
  | none => .non
theorem find_at {p : Int → Bool} : ∀ {ks : List Int} {i : Nat} {t : Int}, (∀ (j : Nat) (x : Int), j < i → ks[j]? = some x → p x = false) → ks[i]? = some t → p t = true → ks.find? p = some t
  | [], i, t, _, h, _ => by simp at h
  | k :: ks, 0, t, _, h, ht => by
    cases h
    rw [List.find?_cons_of_pos ht]
  | k :: ks, i + 1, t, h0, h, ht => by
    have hk : p k = false := h0 0 k (by omega) rfl
    rw [List.find?_cons_of_neg (by rw [hk]; exact Bool.false_ne_true)]
    exact find_at (fun j x hj hx => h0 (j + 1) x (by omega) hx) h ht
theorem find_no {p : Int → Bool} {ks : List Int} (h : ∀ x ∈ ks, p x = false) : ks.find? p = none := List.find?_eq_none.mpr fun x hx => by rw [h x hx]; exact Bool.false_ne_true
theorem fit_zero : ∀ {room : List Int}, (∀ n ∈ room, 0 ≤ n) → ∀ w, fitB (List.replicate w 0) room = true
  | [], _, w => by cases w <;> rfl
  | r :: room, h, 0 => rfl
  | r :: room, h, w + 1 => by
    have ih := fit_zero (room := room) (fun n hn => h n (List.mem_cons_of_mem _ hn)) w
    have h0 := h r List.mem_cons_self
    unfold fitB at ih ⊢
    rw [List.replicate_succ, List.zipWith_cons_cons, List.all_cons, ih]
    simp [h0]
/-- at the last time nothing is borne -/
theorem last_fits {w : Nat} {rs : List Bw} {room ks : List Int} {t : Int} (h : Srt rs ks) (hr : ∀ n ∈ room, 0 ≤ n) (hl : ks.getLast? = some t) : ovr w rs room t = false := by
  have e : rs.filter (liveAt t) = [] := List.filter_eq_nil_iff.mpr fun x hx => by
    have m : x.e ∈ ks := (h.2 x.e).mpr ⟨x, hx, .inr rfl⟩
    obtain ⟨ys, hy⟩ := List.getLast?_eq_some_iff.mp hl
    have le : x.e ≤ t := by
      rw [hy] at m
      rcases List.mem_append.mp m with z | z
      · have := h.1
        rw [hy] at this
        exact Int.le_of_lt ((List.pairwise_append.mp this).2.2 _ z t (List.mem_singleton.mpr rfl))
      · rw [List.mem_singleton.mp z]
        exact Int.le_refl _
    unfold liveAt
    rw [decide_eq_true_eq]
    omega
  unfold ovr netB
  rw [e]
  have z : (List.range w).map (fun j => ((([] : List Bw)).map fun x => x.am.getD j 0).sum) = List.replicate w 0 := by
    apply List.ext_getElem
    · simp
    · intro i h1 h2
      simp
  rw [z, fit_zero hr]
  rfl
theorem nodup_len {α : Type} [DecidableEq α] : ∀ {xs ys : List α}, xs.Nodup → (∀ x ∈ xs, x ∈ ys) → xs.length ≤ ys.length
  | [], _, _, _ => Nat.zero_le _
  | x :: xs, ys, nd, h => by
    rw [List.nodup_cons] at nd
    have hx := h x List.mem_cons_self
    have ih := nodup_len (ys := ys.erase x) nd.2 fun y hy => by
      have ne : y ≠ x := fun z => nd.1 (by rw [← z]; exact hy)
      exact (List.mem_erase_of_ne ne).mpr (h y (List.mem_cons_of_mem _ hy))
    rw [List.length_erase_of_mem hx] at ih
    have := List.length_pos_of_mem hx
    rw [List.length_cons]
    omega
/-! the turns in order -/
def tnD (x : Tn) : PyData := .tuple [.int x.t, .int x.k, .tuple (x.am.map PyData.int)]
theorem tn_uniq {H : Hp} {a : Addr} {x y : Tn} (h : TnAt H a x) (h' : TnAt H a y) : x = y := by
  obtain ⟨p, h1, h2⟩ := h
  obtain ⟨q, h3, h4⟩ := h'
  rw [h1] at h3
  simp only [Option.some.injEq, HO.tup.injEq, List.cons.injEq, V.int.injEq, V.ref.injEq, and_true] at h3
  obtain ⟨e1, e2, e3⟩ := h3
  rw [← e3, h2] at h4
  simp only [Option.some.injEq, HO.tup.injEq] at h4
  have e4 := ints_inj h4
  cases x
  cases y
  simp only at e1 e2 e4
  subst e1 e2 e4
  rfl
open Classical in
noncomputable def encT (H : Hp) (x : V) : PyData := if h : ∃ u : Tn, ∃ a, x = V.ref a ∧ TnAt H a u then tnD h.choose else .none
theorem encT_of {H : Hp} {a : Addr} {u : Tn} (h : TnAt H a u) : encT H (.ref a) = tnD u := by
  have ex : ∃ u : Tn, ∃ b, V.ref a = V.ref b ∧ TnAt H b u := ⟨u, a, rfl, h⟩
  unfold encT
  rw [dif_pos ex]
  obtain ⟨b, e, hb⟩ := ex.choose_spec
  injection e with e
  rw [← e] at hb
  rw [tn_uniq hb h]
theorem alike_tn (x y : Tn) : alike (tnD x) (tnD y) = true := by simp [tnD, alike, alikeAll, alike_ints2]
theorem dp_tn {K : PySem.W.Frag} {H : Hp} {r : Addr} {x : Tn} (h : TnAt H r x) : Dp K H (.ref r) (tnD x) := by
  obtain ⟨p, h1, h2⟩ := h
  exact .tup (SqT.of h1) (.cons (.int _) (.cons (.int _) (.cons (.tup (SqT.of h2) (dp_ints _)) .nil)))
theorem dpt_tn (x : Tn) : (tnD x).depth ≤ 3 := by
  simp [tnD, PyData.depth, PyData.depthAll, dpt_ints]
theorem le_tn {x y : Tn} (h : dataLt (tnD y) (tnD x) = false) : x.t ≤ y.t := by
  unfold tnD at h
  rw [dataLt_tuple, dataLt_cons (by simp [alike]), dataLt_int] at h
  by_cases e : y.t = x.t
  · omega
  · have e2 : PyData.eqv (.int y.t) (.int x.t) = false := by simp [PyData.eqv, e]
    rw [e2, if_neg Bool.false_ne_true, decide_eq_false_iff_not] at h
    omega
theorem sort_tns {H : Hp} {ps : List (Addr × Tn)} (h : ∀ p ∈ ps, TnAt H p.1 p.2) :
    ∃ qs : List (Addr × Tn), qs.Perm ps ∧ ((ps.map (·.1)).map V.ref).mergeSort (dataLe false (encT H)) = (qs.map (·.1)).map V.ref ∧ (qs.map (·.2)).Pairwise fun a b => a.t ≤ b.t := by
  have tl := sortLe_total (listOrd itemOrd) false fun q : Addr × Tn => keyToks (encT H (.ref q.1))
  have pm := List.mergeSort_perm ps (dataLe false fun q : Addr × Tn => encT H (.ref q.1))
  refine ⟨ps.mergeSort (dataLe false fun q : Addr × Tn => encT H (.ref q.1)), pm, ?_, ?_⟩
  · rw [List.map_map, List.map_map]
    exact (List.map_mergeSort (f := V.ref ∘ fun x : Addr × Tn => x.1) (s := dataLe false (encT H)) fun a ha b hb => rfl).symm
  · have so := List.pairwise_mergeSort (le := dataLe false fun q : Addr × Tn => encT H (.ref q.1)) (fun a b c => tl.trans a b c) (fun a b => by rw [Bool.or_eq_true]; exact tl.total a b) ps
    rw [List.pairwise_map]
    refine so.imp_of_mem fun {a b} ha hb hab => ?_
    have hab' : (!dataLt (encT H (.ref b.1)) (encT H (.ref a.1))) = true := hab
    rw [encT_of (h a (pm.mem_iff.mp ha)), encT_of (h b (pm.mem_iff.mp hb))] at hab'
    exact le_tn (by simpa using hab')
/-! the loads as they are gathered -/
structure Gath (H : Hp) (w : Nat) (us : List Tn) (ps : List (Key × V)) (ks : List Int) : Prop where
  keys : ps.map (·.1) = ks.map Sum.inl
  inc : ks.Pairwise (· < ·)
  mem : ∀ t, t ∈ ks ↔ ∃ u ∈ us, u.t = t
  val : ∀ (i : Nat) (k : Int) (v : V), ps[i]? = some (Sum.inl k, v) → ∃ a, v = .ref a ∧ H a = some (.tup ((sumT w (us.filter fun u => decide (u.t ≤ k))).map V.int))
theorem Gath.nil {H : Hp} {w : Nat} : Gath H w [] [] [] := ⟨rfl, .nil, fun t => by simp, fun i k v h => by simp at h⟩
theorem Gath.kt {H H' : Hp} {w : Nat} {us : List Tn} {ps : List (Key × V)} {ks : List Int} (k : KTu H H') (g : Gath H w us ps ks) : Gath H' w us ps ks :=
  ⟨g.keys, g.inc, g.mem, fun i t v h => by
    obtain ⟨a, e, h2⟩ := g.val i t v h
    exact ⟨a, e, k _ _ h2⟩⟩
theorem Gath.len {H : Hp} {w : Nat} {us : List Tn} {ps : List (Key × V)} {ks : List Int} (g : Gath H w us ps ks) : ps.length = ks.length := by
  have := congrArg List.length g.keys
  simpa using this
theorem filt_all {us : List Tn} {t : Int} (h : ∀ u ∈ us, u.t ≤ t) : us.filter (fun u => decide (u.t ≤ t)) = us := List.filter_eq_self.mpr fun u hu => decide_eq_true (h u hu)
theorem Gath.put {H : Hp} {w : Nat} {us : List Tn} {ps : List (Key × V)} {ks : List Int} {u : Tn} {a : Addr} (g : Gath H w us ps ks) (le : ∀ x ∈ us, x.t ≤ u.t) (ha : H a = some (.tup ((sumT w (us ++ [u])).map V.int))) :
    ∃ ls, Gath H w (us ++ [u]) (putK ps (Sum.inl u.t) (.ref a)) ls := by
  have all : (us ++ [u]).filter (fun x => decide (x.t ≤ u.t)) = us ++ [u] := filt_all fun x hx => by
    rcases List.mem_append.mp hx with z | z
    · exact le x z
    · rw [List.mem_singleton.mp z]
      exact Int.le_refl _
  have old : ∀ k : Int, k ∈ ks → k ≠ u.t → (us ++ [u]).filter (fun x => decide (x.t ≤ k)) = us.filter (fun x => decide (x.t ≤ k)) := fun k hk ne => by
    obtain ⟨x, hx, rfl⟩ := (g.mem k).mp hk
    have := le x hx
    rw [List.filter_append, List.filter_cons_of_neg (by rw [decide_eq_true_eq]; omega), List.filter_nil, List.append_nil]
  have inks : ∀ (i : Nat) (k : Int) (v : V), ps[i]? = some (Sum.inl k, v) → k ∈ ks := fun i k v h => by
    have : Sum.inl k ∈ ps.map (·.1) := List.mem_map.mpr ⟨_, List.mem_of_getElem? h, rfl⟩
    rw [g.keys] at this
    obtain ⟨k', h1, h2⟩ := List.mem_map.mp this
    injection h2 with h2
    rw [← h2]
    exact h1
  have anyk : (ps.any fun kv => decide (kv.1 = (Sum.inl u.t : Key))) = true ↔ u.t ∈ ks := by
    rw [List.any_eq_true]
    constructor
    · rintro ⟨kv, h1, h2⟩
      have h2 := of_decide_eq_true h2
      have : (Sum.inl u.t : Key) ∈ ps.map (·.1) := List.mem_map.mpr ⟨kv, h1, h2⟩
      rw [g.keys] at this
      obtain ⟨k', h3, h4⟩ := List.mem_map.mp this
      injection h4 with h4
      rw [← h4]
      exact h3
    · intro hk
      have : (Sum.inl u.t : Key) ∈ ps.map (·.1) := by
        rw [g.keys]
        exact List.mem_map.mpr ⟨_, hk, rfl⟩
      obtain ⟨kv, h1, h2⟩ := List.mem_map.mp this
      exact ⟨kv, h1, decide_eq_true h2⟩
  unfold putK
  by_cases hk : u.t ∈ ks
  · rw [if_pos (anyk.mpr hk)]
    refine ⟨ks, ?_, g.inc, fun t => ?_, fun i k v h => ?_⟩
    · rw [List.map_map, ← g.keys]
      refine List.map_congr_left fun kv _ => ?_
      show (if kv.1 = (Sum.inl u.t : Key) then (kv.1, V.ref a) else kv).1 = kv.1
      split <;> rfl
    · rw [g.mem]
      constructor
      · rintro ⟨x, hx, e⟩
        exact ⟨x, List.mem_append.mpr (.inl hx), e⟩
      · rintro ⟨x, hx, e⟩
        rcases List.mem_append.mp hx with z | z
        · exact ⟨x, z, e⟩
        · rw [← e, List.mem_singleton.mp z]
          exact (g.mem _).mp hk
    · rw [List.getElem?_map] at h
      cases e : ps[i]? with
      | none => rw [e] at h; cases h
      | some kv =>
        rw [e] at h
        have h' : (if kv.1 = (Sum.inl u.t : Key) then (kv.1, V.ref a) else kv) = (Sum.inl k, v) := Option.some.inj h
        by_cases c : kv.1 = (Sum.inl u.t : Key)
        · rw [if_pos c, Prod.mk.injEq] at h'
          have ek : (Sum.inl u.t : Key) = Sum.inl k := c.symm.trans h'.1
          injection ek with ek
          refine ⟨a, h'.2.symm, ?_⟩
          rw [← ek, all]
          exact ha
        · rw [if_neg c] at h'
          rw [h'] at e c
          have ne : k ≠ u.t := fun z => c (by rw [z])
          obtain ⟨a', h1, h2⟩ := g.val i k v e
          exact ⟨a', h1, by rw [old k (inks i k v e) ne]; exact h2⟩
  · rw [if_neg fun z => hk (anyk.mp z)]
    refine ⟨ks ++ [u.t], ?_, ?_, fun t => ?_, fun i k v h => ?_⟩
    · rw [List.map_append, g.keys, List.map_append]
      rfl
    · refine List.pairwise_append.mpr ⟨g.inc, List.pairwise_singleton _ _, fun x hx y hy => ?_⟩
      rw [List.mem_singleton.mp hy]
      obtain ⟨z, hz, e⟩ := (g.mem x).mp hx
      have := le z hz
      have ne : x ≠ u.t := fun q => hk (by rw [← q]; exact hx)
      omega
    · rw [List.mem_append, g.mem, List.mem_singleton]
      constructor
      · rintro (⟨x, hx, e⟩ | e)
        · exact ⟨x, List.mem_append.mpr (.inl hx), e⟩
        · exact ⟨u, List.mem_append.mpr (.inr (List.mem_singleton.mpr rfl)), e.symm⟩
      · rintro ⟨x, hx, e⟩
        rcases List.mem_append.mp hx with z | z
        · exact .inl ⟨x, z, e⟩
        · rw [List.mem_singleton.mp z] at e
          exact .inr e.symm
    · rw [List.getElem?_append] at h
      split at h
      · have ne : k ≠ u.t := fun z => hk (by rw [← z]; exact inks i k v h)
        obtain ⟨a', h1, h2⟩ := g.val i k v h
        exact ⟨a', h1, by rw [old k (inks i k v h) ne]; exact h2⟩
      · cases q : i - ps.length with
        | zero =>
          rw [q] at h
          have h' : ((Sum.inl u.t : Key), V.ref a) = (Sum.inl k, v) := Option.some.inj h
          rw [Prod.mk.injEq] at h'
          have ek := h'.1
          injection ek with ek
          refine ⟨a, h'.2.symm, ?_⟩
          rw [← ek, all]
          exact ha
        | succ m => rw [q] at h; cases h
theorem Gath.get {H : Hp} {w : Nat} {us : List Tn} {ps : List (Key × V)} {ks : List Int} (g : Gath H w us ps ks) {i : Nat} {t : Int} (hi : ks[i]? = some t) : ∃ a, valV ps (Sum.inl t : Key) = some (.ref a) ∧ H a = some (.tup ((sumT w (us.filter fun u => decide (u.t ≤ t))).map V.int)) := by
  have e : (ps.map (·.1))[i]? = some (Sum.inl t) := by rw [g.keys, List.getElem?_map, hi]; rfl
  rw [List.getElem?_map] at e
  cases q : ps[i]? with
  | none => rw [q] at e; cases e
  | some kv =>
    rw [q] at e
    have e' : kv.1 = Sum.inl t := Option.some.inj e
    obtain ⟨k, v⟩ := kv
    simp only at e'
    subst e'
    obtain ⟨a, h1, h2⟩ := g.val i t v q
    refine ⟨a, ?_, h2⟩
    rw [← h1]
    refine valV_get ?_ q
    rw [g.keys]
    have nd : ks.Nodup := g.inc.imp fun h z => by omega
    rw [List.Nodup, List.pairwise_map]
    exact nd.imp fun h z => h (by injection z)
theorem Gath.srt {H : Hp} {w : Nat} {rs : List Bw} {us : List Tn} {ps : List (Key × V)} {ks : List Int} (g : Gath H w us ps ks) (p : us.Perm (turns rs)) : Srt rs ks := by
  refine ⟨g.inc, fun t => ?_⟩
  rw [g.mem]
  constructor
  · rintro ⟨u, hu, e⟩
    rcases List.mem_append.mp (p.mem_iff.mp hu) with z | z
    · obtain ⟨x, hx, rfl⟩ := List.mem_map.mp z
      exact ⟨x, hx, .inl e⟩
    · obtain ⟨x, hx, rfl⟩ := List.mem_map.mp z
      exact ⟨x, hx, .inr e⟩
  · rintro ⟨x, hx, e | e⟩
    · exact ⟨begT x, p.mem_iff.mpr (List.mem_append.mpr (.inl (List.mem_map.mpr ⟨x, hx, rfl⟩))), e⟩
    · exact ⟨endT x, p.mem_iff.mpr (List.mem_append.mpr (.inr (List.mem_map.mpr ⟨x, hx, rfl⟩))), e⟩
/-! rows as data -/
/-! promises -/
def spTurns (K : PySem.W.Frag) : Sp := fun vs H Q _ => ∃ (a : Addr) (as : List Addr) (rs : List Bw), vs = [.ref a] ∧ SqL K H a (as.map V.ref) ∧ Paired (BwAt H) as rs ∧ rs.length ≤ 200 ∧
  ∀ p H' us Us, Same H H' → H p = none → H' p = some (.lst (us.map V.ref)) → Paired (TnAt H') us Us → Us.Perm (turns rs) → Us.Pairwise (fun a b => a.t ≤ b.t) → Q (.ref p) H'
def LdAt (w : Nat) (rs : List Bw) (H : Hp) (l : Addr) (q : Int × Int) : Prop := ∃ p, H l = some (.tup [.int q.1, .int q.2, .ref p]) ∧ H p = some (.tup ((netB w rs q.1).map V.int))
theorem LdAt.kt {w : Nat} {rs : List Bw} {H H' : Hp} {l : Addr} {q : Int × Int} (k : KTu H H') (h : LdAt w rs H l q) : LdAt w rs H' l q := by
  obtain ⟨p, h1, h2⟩ := h
  exact ⟨p, k _ _ h1, k _ _ h2⟩
def spLoads (K : PySem.W.Frag) : Sp := fun vs H Q _ => ∃ (a : Addr) (w : Nat) (as : List Addr) (rs : List Bw), vs = [.int (w : Int), .ref a] ∧ SqL K H a (as.map V.ref) ∧ Paired (BwAt H) as rs ∧ BwOk w rs ∧ 1 ≤ w ∧ w ≤ 20 ∧
  ∀ p H' ls ks, Same H H' → H p = none → H' p = some (.lst (ls.map V.ref)) → Srt rs ks → Paired (LdAt w rs H') ls (ks.zip (ks.drop 1)) → Q (.ref p) H'
def spOver (K : PySem.W.Frag) (Ts : List Addr) : Sp := fun vs H Q _ => ∃ (m a : Addr) (room : List Int) (as : List Addr) (rs : List Bw), vs = [.ref m, .ref a] ∧ SqT K H m (room.map V.int) ∧ SqL K H a (as.map V.ref) ∧ Paired (BwAt H) as rs ∧ BwOk room.length rs ∧ 1 ≤ room.length ∧ room.length ≤ 20 ∧ (∀ n ∈ room, 0 ≤ n) ∧ Tabs Ts H ∧
  ∀ H' ks, Fw Ts H H' → Srt rs ks → Q (oI (ks.find? (ovr room.length rs room))) H'
end My
namespace My
open PySem PySem.W PySem.Spec PyProof.Rows L2 GX GxR
/-! the parting, further -/
def nm (Gs : List Gang) : List Str := Gs.map (·.name)
end My
namespace My
open PySem PySem.W PySem.Spec PyProof.Rows L2
end My
namespace My
open PySem PySem.W PySem.Spec PyProof.Rows L2 GX GxR
/-! one more gang, of the greatest number -/
def aboveOf (r : Int) (Rs : List (Gang × Int)) : List (Gang × Int) := Rs.filter fun R => decide (r ≤ R.1.rank)
def owedB (dn : List Int) (Rs : List (Gang × Int)) (G : Gang) : Bool := fitB (addL (partRs dn Rs).2.2 G.whole) dn
def ownB (dn : List Int) (Rs : List (Gang × Int)) (G : Gang) : Bool := owedB dn (aboveOf G.rank Rs) G
/-! texts among texts -/
theorem inV_strs (z : Str) : ∀ zs : List Str, inV (.str z) (zs.map V.str) = decide (z ∈ zs)
  | [] => by simp [inV]
  | y :: zs => by
    have ih := inV_strs z zs
    unfold inV at ih ⊢
    rw [List.map_cons, List.any_cons, ih]
    by_cases h : y = z
    · subst h
      simp [eqV]
    · have h' : ¬ z = y := fun q => h q.symm
      simp [eqV, h, h']
/-! gangs as data -/
/-! promises -/
structure GIn (H : Hp) (dn : List Int) (g : Addr) (G : Gang) : Prop where
  at_ : GangAt H g G
  fit : Fit (G, 0)
  wlen : G.want.length = dn.length
theorem GIn.kt {H H' : Hp} {dn : List Int} {g : Addr} {G : Gang} (k : KTu H H') (h : GIn H dn g G) : GIn H' dn g G := ⟨h.at_.kt k, h.fit, h.wlen⟩
end My
namespace My
open PySem PySem.Spec PyProof.Rows L2 GX GxR
theorem eqv_self {d : PyData} (h : SeqAt.shaped d = true) : PyData.eqv d d = true := SeqAt.eqv_refl_plain _ (shaped_plain h)
end My
set_option maxHeartbeats 2000000
/-! sets of texts: made, filled, walked in sorted order; set comprehensions of texts. -/
namespace SX
open PySem PySem.Spec PyProof.Rows L2 PpSet
def txtOf (e : Int × Value) : Str := match e.2 with | .str z _ => z | _ => Str.ofString ""
/-- an entry of the text z -/
def IsT (P : Program) (w : World) (e : Int × Value) : Prop := ∃ z t, e.2 = Value.str z t ∧ e.1 = (strKind P w).hash z
/-- the set of the texts zs at a; its table rises and can be walked -/
def TSet (P : Program) (w : World) (h : Heap) (a : Addr) (zs : List Str) : Prop :=
  ∃ o es ep t, h.get? a = some o ∧ o.ExactSet ∧ o.data = .set es ep t ∧ (∀ e ∈ es.toList, IsT P w e) ∧ (es.toList.map txtOf).Perm zs ∧ zs.Nodup ∧
    es.size < scanBound ∧ t.fits es.size = true ∧ Ris t.place.toList ∧ (w.params.followText "set-order" = true ∨ t.led = true)
section
variable {P : Program} {w : World} {h h' : Heap} {a : Addr} {zs : List Str}
theorem TSet.at (R : TSet P w h a zs) (k : ∀ o, h.get? a = some o → h'.get? a = some o) : TSet P w h' a zs := by
  obtain ⟨o, es, ep, t, ho, r⟩ := R
  exact ⟨o, es, ep, t, k o ho, r⟩
theorem TSet.size (R : TSet P w h a zs) : ∃ o es ep t, h.get? a = some o ∧ o.data = .set es ep t ∧ es.size = zs.length := by
  obtain ⟨o, es, ep, t, ho, _, hd, _, pm, _⟩ := R
  exact ⟨o, es, ep, t, ho, hd, by rw [← Array.length_toList, ← List.length_map (f := txtOf), pm.length_eq]⟩
end
section
variable {P : Program} {w : World} {A : Around} {E : Value → Shared → Prop} {s : Shared} {a : Addr} {zs : List Str}
/-- the texts with z -/
def more (zs : List Str) (z : Str) : List Str := if z ∈ zs then zs else z :: zs
end
/-! ### tracked -/
end SX
set_option maxHeartbeats 2000000
/-! {text for .. in ..} and sorted of a set of texts. -/
/-! whom one may take from: what is told, as lists -/
namespace My
open PySem PySem.Spec PyProof.Rows L2 GX GxR
def dueOf : List (Str × List Int) → Str → List Int
  | [], _ => []
  | kv :: kvs, g => if kv.1 = g then kv.2 else dueOf kvs g
theorem dueOf_eq {g : Str} {dn : List Int} : ∀ {kvs : List (Str × List Int)}, (kvs.map (·.1)).Nodup → (g, dn) ∈ kvs → dueOf kvs g = dn
  | [], _, h => nomatch h
  | kv :: kvs, nd, h => by
    rw [List.map_cons, List.nodup_cons] at nd
    unfold dueOf
    rcases List.mem_cons.mp h with z | z
    · rw [← z, if_pos rfl]
    · rw [if_neg fun e => nd.1 (List.mem_map.mpr ⟨_, z, e.symm⟩)]
      exact dueOf_eq nd.2 z
def ofG (Rs : List (Gang × Int)) (g : Str) : List (Gang × Int) := Rs.filter fun R => decide (R.1.guild = g)
def lentOfG (kvs : List (Str × List Int)) (Rs : List (Gang × Int)) (g : Str) : List Str := (partRs (dueOf kvs g) (ofG Rs g)).2.1.map (·.name)
def lentIn (kvs : List (Str × List Int)) (Rs : List (Gang × Int)) (z : Str) : Bool := Rs.any fun R => decide (z ∈ lentOfG kvs Rs R.1.guild)
def gIn (a b c : Bool) : Option Str := if (a && (b || c)) = true then some "rank" else none
def gBey (a b c : Bool) : Option Str := if (b && c) = true then some "share" else if (b && a) = true then some "rank" else none
/-- the ground for the other gang O -/
def groundOf (kvs : List (Str × List Int)) (Rs : List (Gang × Int)) (G O : Gang) : Option Str :=
  if O.guild = G.guild then gIn (decide (O.rank < G.rank)) (lentIn kvs Rs O.name) (ownB (dueOf kvs G.guild) (ofG Rs G.guild) G)
  else gBey (decide (O.rank < G.rank)) (lentIn kvs Rs O.name) (owedB (dueOf kvs G.guild) (ofG Rs G.guild) G)
def TelAt (H : Hp) (t : Addr) (p : Str × Str) : Prop := H t = some (.tup [.str p.1, .str p.2])
theorem TelAt.kt {H H' : Hp} {t : Addr} {p : Str × Str} (k : KTu H H') (h : TelAt H t p) : TelAt H' t p := k _ _ h
/-- dues and rows as they are handed in -/
structure DR (K : PySem.W.Frag) (H : Hp) (d a : Addr) (wr : Nat) (kvs : List (Str × List Int)) (as : List Addr) (Rs : List (Gang × Int)) : Prop where
  dues : ∃ ps : List (Key × V), Rd H d (.dK ps) ∧ Paired (DueAt H) ps kvs
  keys : (kvs.map (·.1)).Nodup
  len : ∀ kv ∈ kvs, kv.2.length = wr
  w1 : 1 ≤ wr
  w8 : wr ≤ 8
  rows : SqL K H a (as.map V.ref)
  prs : Paired (RowAt H) as Rs
  good : Good2 Rs
  few : Rs.length ≤ 60
  want : ∀ R ∈ Rs, R.1.want.length = wr
  guild : ∀ R ∈ Rs, R.1.guild ∈ kvs.map (·.1)
theorem DR.fw {K : PySem.W.Frag} {Ts : List Addr} {H H' : Hp} {d a : Addr} {wr : Nat} {kvs : List (Str × List Int)} {as : List Addr} {Rs : List (Gang × Int)} (t : Tabs Ts H) (f : Fw Ts H H') (h : DR K H d a wr kvs as Rs) : DR K H' d a wr kvs as Rs := by
  obtain ⟨ps, h1, h2⟩ := h.dues
  refine ⟨⟨ps, ?_, h2.mono fun _ _ x => x.kt (f.kt t)⟩, h.keys, h.len, h.w1, h.w8, f.seqL t h.rows, h.prs.mono fun _ _ x => x.kt (f.kt t), h.good, h.few, h.want, h.guild⟩
  rcases h1 with e | ⟨od, e⟩
  · exact .inl (f.obj t e fun pp z => by cases z)
  · exact .inr ⟨od, f.obj t e fun pp z => by cases z⟩
theorem DR.get {K : PySem.W.Frag} {H : Hp} {d a : Addr} {wr : Nat} {kvs : List (Str × List Int)} {as : List Addr} {Rs : List (Gang × Int)} (h : DR K H d a wr kvs as Rs) {g : Str} (hg : g ∈ kvs.map (·.1)) :
    ∃ av, DGet H d (.str g) (some (.ref av)) ∧ H av = some (.tup ((dueOf kvs g).map V.int)) ∧ (dueOf kvs g).length = wr := by
  obtain ⟨ps, h1, h2⟩ := h.dues
  obtain ⟨av, dn, vv, mkv, ea⟩ := valV_due h2 h.keys hg
  have e := dueOf_eq h.keys mkv
  refine ⟨av, dgetR h1 vv, ?_, ?_⟩
  · rw [e]
    exact ea
  · rw [e]
    exact h.len _ mkv
end My
/-! whom one may take from, by the laws' own reckoning -/
namespace My
open PySem PySem.Spec PyProof.Rows L2 GX GxR
/-- locked or not, what is read of dues and rows stands -/
theorem DR.same {K : PySem.W.Frag} {H H' : Hp} {d a : Addr} {wr : Nat} {kvs : List (Str × List Int)} {as : List Addr} {Rs : List (Gang × Int)} (s : Same H H') (h : DR K H d a wr kvs as Rs) : DR K H' d a wr kvs as Rs := by
  obtain ⟨ps, h1, h2⟩ := h.dues
  refine ⟨⟨ps, ?_, h2.mono fun _ _ x => x.kt (Same.kt s)⟩, h.keys, h.len, h.w1, h.w8, s.seq h.rows, h.prs.mono fun _ _ x => x.same s, h.good, h.few, h.want, h.guild⟩
  rcases h1 with e | ⟨od, e⟩
  · exact .inl (s _ _ e)
  · exact .inr ⟨od, s _ _ e⟩
end My
/-! dues, rows and a gang, as the laws hand them in -/
namespace My
open PySem PySem.Spec PyProof.Rows L2 GX GxR
structure RI (K : PySem.W.Frag) (H : Hp) (d a g : Addr) (wr : Nat) (kvs : List (Str × List Int)) (as : List Addr) (Rs : List (Gang × Int)) (G : Gang) : Prop where
  dr : DR K H d a wr kvs as Rs
  dd : ∃ ps : List (Key × V), H d = some (.dK ps)
  la : H a = some (.lst (as.map V.ref))
  l12 : kvs.length ≤ 12
  at_ : GangAt H g G
  fit : Fit (G, 0)
  wl : G.want.length = wr
  gg : G.guild ∈ kvs.map (·.1)
  no : ∀ R ∈ Rs, R.1.name ≠ G.name
theorem RI.fw {K : PySem.W.Frag} {Ts : List Addr} {H H' : Hp} {d a g : Addr} {wr : Nat} {kvs : List (Str × List Int)} {as : List Addr} {Rs : List (Gang × Int)} {G : Gang} (t : Tabs Ts H) (f : Fw Ts H H') (h : RI K H d a g wr kvs as Rs G) : RI K H' d a g wr kvs as Rs G := by
  obtain ⟨ps, hd⟩ := h.dd
  exact ⟨h.dr.fw t f, ⟨ps, f.obj t hd fun pp z => by cases z⟩, f.lst t h.la, h.l12, h.at_.kt (f.kt t), h.fit, h.wl, h.gg, h.no⟩
theorem RI.same {K : PySem.W.Frag} {H H' : Hp} {d a g : Addr} {wr : Nat} {kvs : List (Str × List Int)} {as : List Addr} {Rs : List (Gang × Int)} {G : Gang} (s : Same H H') (h : RI K H d a g wr kvs as Rs G) : RI K H' d a g wr kvs as Rs G := by
  obtain ⟨ps, hd⟩ := h.dd
  exact ⟨h.dr.same s, ⟨ps, s _ _ hd⟩, s _ _ h.la, h.l12, h.at_.same s, h.fit, h.wl, h.gg, h.no⟩
end My
/-! the state's dues, rows and gang are fit to be handed in -/
namespace My
open PySem PySem.Spec PyProof.Rows L2 GX GxR
section
variable {K : PySem.W.Frag} {H : Hp} {d r g : Addr} {gs : List Str} {wr : Nat} {kvs : List (Str × List Int)} {Rs : List (Gang × Int)} {G : Gang}
theorem StateAt.kn (St : StateAt H d r g gs wr kvs Rs G) : (kvs.map (·.1)).Nodup := by
  rw [St.keys]
  exact St.gsok.nd
theorem StateAt.good (St : StateAt H d r g gs wr kvs Rs G) : Good2 Rs := good_state St.gsok St.w8 St.rok
theorem StateAt.l12 (St : StateAt H d r g gs wr kvs Rs G) : kvs.length ≤ 12 := by
  have := St.gsok.l12
  rw [← St.keys, List.length_map] at this
  exact this
theorem StateAt.row (St : StateAt H d r g gs wr kvs Rs G) {R : Gang × Int} (h : R ∈ Rs) : GangOk gs wr R.1 := by
  obtain ⟨i, hi⟩ := List.mem_iff_getElem?.mp h
  exact (St.rok.2 i R hi).ok
theorem StateAt.no (St : StateAt H d r g gs wr kvs Rs G) : ∀ R ∈ Rs, R.1.name ≠ G.name := fun R hR z => by
  obtain ⟨i, hi⟩ := List.mem_iff_getElem?.mp hR
  have hi' : i < Rs.length := (List.getElem?_eq_some_iff.mp hi).1
  have lR := St.rok.1
  have nn := (St.rok.2 i R hi).name
  have off := (names_ok1.2 _ (rowName_mem (i := i) (by omega))).2.2
  rw [← nn, z] at off
  exact absurd St.gname off
theorem StateAt.same {H' : Hp} (St : StateAt H d r g gs wr kvs Rs G) (s : Same H H') : StateAt H' d r g gs wr kvs Rs G :=
  ⟨St.gsok, St.w1, St.w8, St.dues.kt (Same.kt s) (fun o h => s _ _ h), St.keys, St.amts, St.rows.kt (Same.kt s) (fun o h => s _ _ h), St.rok, St.gang.same s, St.gok, St.gname⟩
theorem StateAt.fw {Ts : List Addr} {H' : Hp} (St : StateAt H d r g gs wr kvs Rs G) (t : Tabs Ts H) (f : Fw Ts H H') : StateAt H' d r g gs wr kvs Rs G := by
  obtain ⟨ps, h1, h2⟩ := St.dues
  obtain ⟨as, h3, h4⟩ := St.rows
  exact ⟨St.gsok, St.w1, St.w8, ⟨ps, f.obj t h1 (fun pp z => by cases z), h2.mono fun _ _ x => x.kt (f.kt t)⟩, St.keys, St.amts, ⟨as, f.lst t h3, h4.mono fun _ _ x => x.kt (f.kt t)⟩, St.rok, St.gang.kt (f.kt t), St.gok, St.gname⟩
/-- rows of the state, in a list of their own, and a gang beside them -/
theorem StateAt.dr (St : StateAt H d r g gs wr kvs Rs G) {a : Addr} {bs : List Addr} {Ss : List (Gang × Int)} (ha : H a = some (.lst (bs.map V.ref))) (hp : Paired (RowAt H) bs Ss) (hs : ∀ R ∈ Ss, R ∈ Rs) (good : Good2 Ss) (few : Ss.length ≤ 60) : DR K H d a wr kvs bs Ss := by
  obtain ⟨ps, h1, h2⟩ := St.dues
  refine ⟨⟨ps, .inl h1, h2⟩, St.kn, fun kv h => (St.amts kv h).2, St.w1, St.w8, SqL.of ha, hp, good, few, fun R hR => (St.row (hs R hR)).wlen, fun R hR => ?_⟩
  rw [St.keys]
  exact (St.row (hs R hR)).guild
end
/-! rows turned about -/
theorem paired_app {α β : Type} {R : α → β → Prop} : ∀ {xs : List α} {ys : List β} {us : List α} {vs : List β}, Paired R xs ys → Paired R us vs → Paired R (xs ++ us) (ys ++ vs)
  | _, _, _, _, .nil, h => h
  | _, _, _, _, .cons r t, h => .cons r (paired_app t h)
/-- a box that is asked is no other thing's business -/
theorem Fw.box {Ts : List Addr} {H H1 H2 : Hp} {b : Addr} (t : Tabs Ts H) (f : Fw Ts H H1) (n : H b = none) (k : Kp [b] H1 H2) : Fw Ts H H2 := by
  refine ⟨fun x o nx e => k x o (fun z => ?_) (f.kp x o nx e), fun T hT => ?_⟩
  · rw [List.mem_singleton.mp z, n] at e
    cases e
  · refine TabG.kp k (fun z => ?_) (f.tabs T hT)
    obtain ⟨ps, h1, _⟩ := t T hT
    rw [List.mem_singleton.mp z, n] at h1
    cases h1
end My
/-! what is left when all that may be taken are away -/
namespace My
open PySem PySem.Spec PyProof.Rows L2 GX GxR
def stays (kvs : List (Str × List Int)) (Rs : List (Gang × Int)) (G F : Gang) : Bool := (groundOf kvs Rs G F).isNone
/-! one that is owed would be own -/
/-! a dict that is walked is locked, and unlocked again -/
end My
namespace My
open PySem PySem.W PySem.Spec PyProof.Rows L2 GX GxR
/-! books -/
def mbody : Stmt → List Stmt
  | .ClassDef _ _ _ b _ _ _ _ _ _ _ => b
  | _ => []
/-- the class of books -/
structure BCls (K : PySem.W.Frag) (C : Addr) : Prop where
  cls : Cls K C
  room : NoAttr K C "room"
  entries : NoAttr K C "entries"
  lefts : NoAttr K C "lefts"
def EnAt (H : Hp) (p : Key × V) (x : Bw) : Prop := p.1 = Sum.inr x.key ∧ ∃ r, p.2 = .ref r ∧ BwAt H r x
theorem EnAt.kt {H H' : Hp} {p : Key × V} {x : Bw} (k : KTu H H') (h : EnAt H p x) : EnAt H' p x := by
  obtain ⟨h1, r, h2, h3⟩ := h
  exact ⟨h1, r, h2, h3.kt k⟩
theorem en_keys {H : Hp} : ∀ {ps : List (Key × V)} {rs : List Bw}, Paired (EnAt H) ps rs → ps.map (·.1) = (rs.map (·.key)).map Sum.inr
  | _, _, .nil => rfl
  | _, _, .cons r t => by rw [List.map_cons, List.map_cons, List.map_cons, en_keys t, r.1]
def flds (m d : Addr) (lv : V) : List (Str × V) := [("room", .ref m), ("entries", .ref d), ("lefts", lv)]
/-- the book at a: its room, its entries -/
structure BookAt (H : Hp) (C a dx m d : Addr) (lv : V) (ps : List (Key × V)) (room : List Int) (rs : List Bw) : Prop where
  obj : H a = some (.ins C dx (flds m d lv))
  rm : H m = some (.tup (room.map V.int))
  en : H d = some (.dK ps)
  prs : Paired (EnAt H) ps rs
  nd : (rs.map (·.key)).Nodup
  few : rs.length < 110
  ok : BwOk room.length rs
  r1 : 1 ≤ room.length
  r20 : room.length ≤ 20
section
variable {H H' : Hp} {C a dx m d : Addr} {lv : V} {ps : List (Key × V)} {room : List Int} {rs : List Bw}
theorem BookAt.same (s : Same H H') (B : BookAt H C a dx m d lv ps room rs) : BookAt H' C a dx m d lv ps room rs :=
  ⟨s _ _ B.obj, s _ _ B.rm, s _ _ B.en, B.prs.mono fun _ _ x => x.kt (Same.kt s), B.nd, B.few, B.ok, B.r1, B.r20⟩
theorem BookAt.get (B : BookAt H C a dx m d lv ps room rs) {z : Str} (hz : z ∈ rs.map (·.key)) : ∃ (r : Addr) (x : Bw), valV ps (Sum.inr z) = some (.ref r) ∧ BwAt H r x ∧ x ∈ rs ∧ x.key = z := by
  obtain ⟨i, hi⟩ := List.mem_iff_getElem?.mp hz
  rw [List.getElem?_map] at hi
  cases e : rs[i]? with
  | none => rw [e] at hi; cases hi
  | some x =>
    rw [e] at hi
    have hk : x.key = z := Option.some.inj hi
    obtain ⟨p, hp, h1, r, h2, h3⟩ := paired_get2 B.prs e
    refine ⟨r, x, ?_, h3, List.mem_of_getElem? e, hk⟩
    rw [← h2]
    refine valV_get ?_ (i := i) ?_
    · rw [en_keys B.prs]
      exact keys_nd B.nd
    · rw [hp, ← hk, ← h1]
end
/-- entries in the order of their keys -/
def InKeys (rs ss : List Bw) : Prop := ss.Perm rs ∧ sortedS (ss.map (·.key)) = true
theorem perm_keys {rs ss : List Bw} {ys : List Str} (nd : (rs.map (·.key)).Nodup) (p : ys.Perm (rs.map (·.key))) (e : ss.map (·.key) = ys) (h : ∀ x ∈ ss, x ∈ rs) : ss.Perm rs := by
  have n1 : (ss.map (·.key)).Nodup := by rw [e]; exact p.nodup_iff.mpr nd
  have nodup_of : ∀ {xs : List Bw}, (xs.map (·.key)).Nodup → xs.Nodup := fun {xs} h => by
    rw [List.Nodup, List.pairwise_map] at h
    exact h.imp fun q z => q (by rw [z])
  refine (List.perm_ext_iff_of_nodup (nodup_of n1) (nodup_of nd)).mpr fun x => ⟨h x, fun hx => ?_⟩
  have : x.key ∈ ss.map (·.key) := by
    rw [e]
    exact p.mem_iff.mpr (List.mem_map.mpr ⟨x, hx, rfl⟩)
  obtain ⟨y, hy, ey⟩ := List.mem_map.mp this
  rw [nodup_inj nd x hx y (h y hy) ey.symm]
  exact hy
def spERows (K : PySem.W.Frag) (C : Addr) : Sp := fun vs H Q _ => ∃ (a dx m d : Addr) (lv : V) (ps : List (Key × V)) (room : List Int) (rs : List Bw), vs = [.ref a] ∧ BookAt H C a dx m d lv ps room rs ∧
  ∀ p H' as ss, Same H H' → H p = none → H' p = some (.lst (as.map V.ref)) → Paired (BwAt H') as ss → InKeys rs ss → Q (.ref p) H'
def spWRoom (C : Addr) : Sp := fun vs H Q _ => ∃ (a dx m d : Addr) (lv : V), vs = [.ref a] ∧ H a = some (.ins C dx (flds m d lv)) ∧ Q (.ref m) H
def spLoadAt (K : PySem.W.Frag) (C : Addr) : Sp := fun vs H Q _ => ∃ (a dx m d : Addr) (lv : V) (ps : List (Key × V)) (room : List Int) (rs : List Bw) (t : Int), vs = [.ref a, .int t] ∧ BookAt H C a dx m d lv ps room rs ∧
  ∀ p H', Same H H' → H p = none → H' p = some (.tup ((netB room.length rs t).map V.int)) → Q (.ref p) H'
theorem net_nil (w : Nat) (t : Int) : netB w [] t = List.replicate w 0 := by
  unfold netB
  apply List.ext_getElem
  · simp
  · intro i h1 h2
    simp
theorem net_skip {w : Nat} {rs : List Bw} {x : Bw} {t : Int} (h : liveAt t x = false) : netB w (rs ++ [x]) t = netB w rs t := by
  unfold netB
  rw [List.filter_append, List.filter_cons_of_neg (by rw [h]; exact Bool.false_ne_true), List.filter_nil, List.append_nil]
theorem net_add {w : Nat} {rs : List Bw} {x : Bw} {t : Int} (h : liveAt t x = true) (hl : x.am.length = w) : List.zipWith (· + ·) (netB w rs t) x.am = netB w (rs ++ [x]) t := by
  apply List.ext_getElem
  · rw [List.length_zipWith, netB_len, netB_len, hl, Nat.min_self]
  · intro i h1 h2
    rw [netB_len] at h2
    simp [netB, List.filter_append, h, show i < x.am.length by omega]
/-! a locked dict -/
theorem kp_lock {H : Hp} {d : Addr} {o : HO} : Kp [d] H (upd H d o) := kp_upd (List.mem_singleton.mpr rfl)
theorem unlock_same {H H' : Hp} {d : Addr} {u : HO} (ed : H d = some u) (k : Kp [d] H H') : Same H (upd H' d u) := fun x o e => by
  by_cases z : x = d
  · rw [z, upd_same]
    rw [z, ed] at e
    exact e
  · rw [upd_ne z]
    exact k _ _ (fun q => z (List.mem_singleton.mp q)) e
def minI (i j : Int) : Int := if j < i then j else i
/-! what is left from edge to edge -/
def lessL (xs ys : List Int) : List Int := List.zipWith (· - ·) xs ys
def LfAt (room : List Int) (rs : List Bw) (H : Hp) (l : Addr) (q : Int × Int) : Prop := ∃ p, H l = some (.tup [.int q.1, .int q.2, .ref p]) ∧ H p = some (.tup ((lessL room (netB room.length rs q.1)).map V.int))
theorem LfAt.kt {room : List Int} {rs : List Bw} {H H' : Hp} {l : Addr} {q : Int × Int} (k : KTu H H') (h : LfAt room rs H l q) : LfAt room rs H' l q := by
  obtain ⟨p, h1, h2⟩ := h
  exact ⟨p, k _ _ h1, k _ _ h2⟩
def LeftsAt (H : Hp) (lv : V) (room : List Int) (rs : List Bw) : Prop := lv = .non ∨ ∃ (l : Addr) (ls : List Addr) (ks : List Int), lv = .ref l ∧ H l = some (.lst (ls.map V.ref)) ∧ Srt rs ks ∧ Paired (LfAt room rs H) ls (ks.zip (ks.drop 1))
/-- the least of what is left where [b, e) meets an edge to the next -/
def meets (b e : Int) (q : Int × Int) : Bool := decide (q.1 < e) && decide (b < q.2)
def leastStep (room : List Int) (rs : List Bw) (acc : Option (List Int)) (q : Int × Int) : Option (List Int) := match acc with
  | none => some (lessL room (netB room.length rs q.1))
  | some v => some (List.zipWith minI v (lessL room (netB room.length rs q.1)))
def leastLeft (room : List Int) (rs : List Bw) (b e : Int) (qs : List (Int × Int)) : Option (List Int) := (qs.filter (meets b e)).foldl (leastStep room rs) none
def LV (H : Hp) (v : V) (o : Option (List Int)) : Prop := match o with
  | none => v = .non
  | some ns => ns.length ≤ 20 ∧ ∃ p, v = .ref p ∧ H p = some (.tup (ns.map V.int))
theorem LV.kt {H H' : Hp} {v : V} {o : Option (List Int)} (k : KTu H H') (h : LV H v o) : LV H' v o := by
  cases o with
  | none => exact h
  | some ns =>
    obtain ⟨h1, p, h2, h3⟩ := h
    exact ⟨h1, p, h2, k _ _ h3⟩
end My
namespace My
open PySem PySem.W PySem.Spec PyProof.Rows L2 GX GxR
/-- an own exception's class, over ValueError, with no __init__ of its own -/
structure ExcP (K : PySem.W.Frag) (mg : Str → Option Value) (nam : Str) (C : Addr) : Prop where
  x : excIn K C [.type "ValueError", .type "Exception", .type "BaseException", .type "object"] "ValueError.__new__" = true
  g : mg nam = some (.ref C)
  k : keepIn K (.ref C) = true
  b : subIn K (.ref C) (.type "BaseException") = some true
  t : typeIn K (.ref C) = some (.type "type")
/-- the entry of a key -/
def spEOf (C N : Addr) : Sp := fun vs H Q E => ∃ (a dx m d : Addr) (lv : V) (ps : List (Key × V)) (room : List Int) (rs : List Bw) (z : Str), vs = [.ref a, .str z] ∧ BookAt H C a dx m d lv ps room rs ∧ z.length ≤ 100 ∧
  (∀ r x, valV ps (Sum.inr z) = some (.ref r) → BwAt H r x → x ∈ rs → x.key = z → Q (.ref r) H) ∧ (z ∉ rs.map (·.key) → E (.ref N) none H)
theorem BookAt.none {H : Hp} {C a dx m d : Addr} {lv : V} {ps : List (Key × V)} {room : List Int} {rs : List Bw} (B : BookAt H C a dx m d lv ps room rs) {z : Str} (h : valV ps (Sum.inr z) = none) : z ∉ rs.map (·.key) := fun hz => by
  obtain ⟨r, x, h1, _⟩ := B.get hz
  rw [h] at h1
  cases h1
theorem BookAt.some {H : Hp} {C a dx m d : Addr} {lv : V} {ps : List (Key × V)} {room : List Int} {rs : List Bw} (B : BookAt H C a dx m d lv ps room rs) {z : Str} {v : V} (h : valV ps (Sum.inr z) = some v) : z ∈ rs.map (·.key) := by
  have h1 : (ps.any fun kv => decide (kv.1 = (Sum.inr z : Key))) = true := by
    rw [valV_any, h]
    rfl
  obtain ⟨kv, m1, m2⟩ := List.any_eq_true.mp h1
  have : kv.1 ∈ ps.map (·.1) := List.mem_map.mpr ⟨kv, m1, rfl⟩
  rw [en_keys B.prs, of_decide_eq_true m2] at this
  obtain ⟨z', h2, h3⟩ := List.mem_map.mp this
  injection h3 with h3
  rw [← h3]
  exact h2
/-! a book's entries changed -/
def putR (rs : List Bw) (x : Bw) : List Bw := if x.key ∈ rs.map (·.key) then rs.map (fun y => if y.key = x.key then x else y) else rs ++ [x]
theorem set_pairs {H : Hp} {x : Bw} {r : Addr} (hr : BwAt H r x) : ∀ {ps : List (Key × V)} {rs : List Bw}, Paired (EnAt H) ps rs → Paired (EnAt H) (ps.map fun kv => if kv.1 = (Sum.inr x.key : Key) then (kv.1, V.ref r) else kv) (rs.map fun y => if y.key = x.key then x else y)
  | _, _, .nil => .nil
  | p :: ps, y :: rs, .cons h t => by
    have ih := set_pairs hr t
    rw [List.map_cons, List.map_cons]
    refine .cons ?_ ih
    by_cases e : y.key = x.key
    · rw [if_pos e, if_pos (by rw [h.1, e])]
      exact ⟨by rw [h.1, e], r, rfl, hr⟩
    · rw [if_neg e, if_neg (by rw [h.1]; exact fun q => e (by injection q))]
      exact h
theorem put_pairs {H : Hp} {x : Bw} {r : Addr} {ps : List (Key × V)} {rs : List Bw} (hr : BwAt H r x) (h : Paired (EnAt H) ps rs) : Paired (EnAt H) (putK ps (Sum.inr x.key) (.ref r)) (putR rs x) := by
  have any : (ps.any fun kv => decide (kv.1 = (Sum.inr x.key : Key))) = true ↔ x.key ∈ rs.map (·.key) := by
    rw [List.any_eq_true]
    constructor
    · rintro ⟨kv, h1, h2⟩
      have : (Sum.inr x.key : Key) ∈ ps.map (·.1) := List.mem_map.mpr ⟨kv, h1, of_decide_eq_true h2⟩
      rw [en_keys h] at this
      obtain ⟨z, h3, h4⟩ := List.mem_map.mp this
      injection h4 with h4
      rw [← h4]
      exact h3
    · intro hk
      have : (Sum.inr x.key : Key) ∈ ps.map (·.1) := by
        rw [en_keys h]
        exact List.mem_map.mpr ⟨_, hk, rfl⟩
      obtain ⟨kv, h1, h2⟩ := List.mem_map.mp this
      exact ⟨kv, h1, decide_eq_true h2⟩
  unfold putK putR
  by_cases e : x.key ∈ rs.map (·.key)
  · rw [if_pos (any.mpr e), if_pos e]
    exact set_pairs hr h
  · rw [if_neg fun z => e (any.mp z), if_neg e]
    exact Paired.snoc h ⟨rfl, r, rfl, hr⟩
theorem putR_keys {rs : List Bw} {x : Bw} : (putR rs x).map (·.key) = if x.key ∈ rs.map (·.key) then rs.map (·.key) else rs.map (·.key) ++ [x.key] := by
  unfold putR
  split
  · rw [List.map_map]
    refine List.map_congr_left fun y _ => ?_
    show (if y.key = x.key then x else y).key = y.key
    split
    · rename_i e
      exact e.symm
    · rfl
  · rw [List.map_append]
    rfl
theorem putR_nd {rs : List Bw} {x : Bw} (h : (rs.map (·.key)).Nodup) : ((putR rs x).map (·.key)).Nodup := by
  rw [putR_keys]
  split
  · exact h
  · rename_i e
    rw [List.nodup_append]
    refine ⟨h, by simp, fun a ha b hb z => e ?_⟩
    rw [← List.mem_singleton.mp hb, ← z]
    exact ha
theorem putR_mem {rs : List Bw} {x y : Bw} (h : y ∈ putR rs x) : y ∈ rs ∨ y = x := by
  unfold putR at h
  split at h
  · obtain ⟨z, hz, e⟩ := List.mem_map.mp h
    split at e
    · exact .inr e.symm
    · exact .inl (by rw [← e]; exact hz)
  · rcases List.mem_append.mp h with z | z
    · exact .inl z
    · exact .inr (List.mem_singleton.mp z)
theorem BookAt.ad {H : Hp} {C a dx m d : Addr} {lv : V} {ps : List (Key × V)} {room : List Int} {rs : List Bw} (B : BookAt H C a dx m d lv ps room rs) : a ≠ d ∧ m ≠ a ∧ m ≠ d := by
  refine ⟨fun z => ?_, fun z => ?_, fun z => ?_⟩
  · have := B.obj
    rw [z, B.en] at this
    cases this
  · have := B.rm
    rw [z, B.obj] at this
    cases this
  · have := B.rm
    rw [z, B.en] at this
    cases this
/-- a book whose entries and lefts were set anew -/
theorem BookAt.set {H : Hp} {C a dx m d : Addr} {lv : V} {ps ps' : List (Key × V)} {room : List Int} {rs rs' : List Bw} (B : BookAt H C a dx m d lv ps room rs) (pr : Paired (EnAt H) ps' rs') (nd : (rs'.map (·.key)).Nodup) (few : rs'.length < 110) (ok : BwOk room.length rs') :
    Kp [a, d] H (upd (upd H d (.dK ps')) a (.ins C dx (flds m d .non))) ∧ BookAt (upd (upd H d (.dK ps')) a (.ins C dx (flds m d .non))) C a dx m d .non ps' room rs' := by
  obtain ⟨ad, ma, md⟩ := B.ad
  have k1 : KTu H (upd H d (.dK ps')) := kt_put B.en (fun xs z => by cases z)
  have k2 : KTu (upd H d (.dK ps')) (upd (upd H d (.dK ps')) a (.ins C dx (flds m d .non))) := kt_put (by rw [upd_ne ad]; exact B.obj) (fun xs z => by cases z)
  refine ⟨fun x o nx e => ?_, upd_same, ?_, ?_, pr.mono fun _ _ x => x.kt (k1.trans k2), nd, few, ok, B.r1, B.r20⟩
  · rw [upd_ne fun z => nx (by rw [z]; exact List.mem_cons_self), upd_ne fun z => nx (by rw [z]; exact List.mem_cons_of_mem _ (List.mem_singleton.mpr rfl))]
    exact e
  · exact k2 _ _ (k1 _ _ B.rm)
  · rw [upd_ne ad.symm, upd_same]
/-! readings that hand on -/
def MonoE (t : TE) : Prop := ∀ σ H (Q Q' : VK), (∀ v H1, Q v H1 → Q' v H1) → t σ H Q → t σ H Q'
theorem mono_C {v : V} : MonoE (tC v) := fun _ _ _ _ h q => h _ _ q
theorem mono_var {i : Nat} : MonoE (tVar i) := fun _ _ _ _ h q => by
  obtain ⟨x, e, q⟩ := q
  exact ⟨x, e, h _ _ q⟩
theorem mono_fmt {te : TE} (m : MonoE te) : MonoE (tFmt te) := fun σ H Q Q' h q => m σ H _ _ (fun v H1 z => by
  rcases z with ⟨y, e, l, z⟩ | ⟨i, e, l, z⟩
  · exact .inl ⟨y, e, l, h _ _ z⟩
  · exact .inr ⟨i, e, l, h _ _ z⟩) q
theorem mono_js : ∀ {ts : List TE}, (∀ t ∈ ts, MonoE t) → ∀ acc σ H (Q Q' : Str → Hp → Prop), (∀ o H1, Q o H1 → Q' o H1) → tJs ts acc σ H Q → tJs ts acc σ H Q'
  | [], _, _, _, _, _, _, h, q => h _ _ q
  | t :: ts, m, acc, σ, H, Q, Q', h, q => m t List.mem_cons_self σ H _ _ (fun v H1 z => by
    obtain ⟨y, e, l, z⟩ := z
    exact ⟨y, e, l, mono_js (fun t ht => m t (List.mem_cons_of_mem _ ht)) _ σ H1 Q Q' h z⟩) q
theorem mono_joined4 {a b c d : TE} (ha : MonoE a) (hb : MonoE b) (hc : MonoE c) (hd : MonoE d) : MonoE (fun σ H Q => tJs [a, b, c, d] Str.empty σ H fun out H1 => Q (.str out) H1) := fun σ H Q Q' h q =>
  mono_js (fun t ht => by
    rcases List.mem_cons.mp ht with z | ht
    · rw [z]; exact ha
    · rcases List.mem_cons.mp ht with z | ht
      · rw [z]; exact hb
      · rcases List.mem_cons.mp ht with z | ht
        · rw [z]; exact hc
        · rw [List.mem_singleton.mp ht]; exact hd) _ σ H _ _ (fun o H1 z => h _ _ z) q
theorem mono_two {a b : TE} (ha : MonoE a) (hb : MonoE b) (σ : L2.St) (H : Hp) (Q Q' : List V → Hp → Prop) (h : ∀ vs H1, Q vs H1 → Q' vs H1) (q : tCons a (tCons b tNil) σ H Q) : tCons a (tCons b tNil) σ H Q' :=
  ha σ H _ _ (fun v H1 z => hb σ H1 _ _ (fun v2 H2 z2 => h _ _ z2) z) q
/-- the class of what is too much -/
structure ExcT (P : Program) (w : World) (K : PySem.W.Frag) (mg : Str → Option Value) (base : Heap) (k : Nat) (C fI : Addr) (fd : FuncData) : Prop where
  T : OexC K C
  iC : findIn K (.ref C) "__init__" = some (some (.ref fI))
  tI : typeIn K (.ref fI) = some (.type "function")
  F : FnOk P w K mg base CX0 k fI fd ["self", "words", "time"] (XI.spInit C "time")
  b : L2.Binds K fd ["self", "words", "time"] []
  g : mg "TooMuch" = some (.ref C)
/-- the others and the new one -/
def withX (rs : List Bw) (x : Bw) : List Bw := rs.filter (fun y => decide (y.key ≠ x.key)) ++ [x]
/-- what is wished for where x is to be kept in the book at a -/
def KeepC (Ts : List Addr) (C TM a dx m d : Addr) (room : List Int) (rs : List Bw) (x : Bw) (H : Hp) (Q : VK) (E : XK) : Prop := x.key.length ≤ 100 ∧
  BwOk room.length (withX rs x) ∧ (putR rs x).length < 110 ∧ BwOk room.length (putR rs x) ∧ (∀ n ∈ room, 0 ≤ n) ∧ (∀ y ∈ withX rs x, y.b.natAbs.log2 < 1920 ∧ y.e.natAbs.log2 < 1920) ∧ Tabs Ts H ∧
  (∀ H' ks ps', Srt (withX rs x) ks → ks.find? (ovr room.length (withX rs x) room) = none → Kp (a :: d :: Ts) H H' → Tabs Ts H' → BookAt H' C a dx m d .non ps' room (putR rs x) → Q .non H') ∧
  (∀ H' ks t dE, Srt (withX rs x) ks → ks.find? (ovr room.length (withX rs x) room) = some t → Fw Ts H H' → H dE = none → H' dE = some (.xd [("time", .int t)]) → E (.ref TM) (some dE) H')
theorem KeepC.same {Ts : List Addr} {C TM a dx m d : Addr} {room : List Int} {rs : List Bw} {x : Bw} {H H1 : Hp} {Q Q1 : VK} {E E1 : XK} (s : Same H H1) (hQ : ∀ H', Q .non H' → Q1 .non H') (hE : ∀ cl o H', E cl o H' → E1 cl o H') (h : KeepC Ts C TM a dx m d room rs x H Q E) : KeepC Ts C TM a dx m d room rs x H1 Q1 E1 := by
  obtain ⟨kl, okW, few, okP, nn, bnd, tH, q, qe⟩ := h
  refine ⟨kl, okW, few, okP, nn, bnd, (Fw.same tH s).tabs, fun H' ks ps' h1 h2 h3 h4 h5 => hQ _ (q H' ks ps' h1 h2 ((Same.kp _ s).trans h3) h4 h5), fun H' ks t dE h1 h2 h3 h4 h5 => hE _ _ _ (qe H' ks t dE h1 h2 ((Fw.same tH s).trans h3) (s.free h4) h5)⟩
def spKeep (K : PySem.W.Frag) (Ts : List Addr) (C TM : Addr) : Sp := fun vs H Q E => ∃ (a dx m d : Addr) (lv : V) (ps : List (Key × V)) (room : List Int) (rs : List Bw) (r : Addr) (x : Bw), vs = [.ref a, .ref r] ∧ BookAt H C a dx m d lv ps room rs ∧ BwAt H r x ∧
  KeepC Ts C TM a dx m d room rs x H Q E
def spPut (K : PySem.W.Frag) (Ts : List Addr) (C TM TK : Addr) : Sp := fun vs H Q E => ∃ (a dx m d : Addr) (lv : V) (ps : List (Key × V)) (room : List Int) (rs : List Bw) (p : Addr) (x : Bw), vs = [.ref a, .str x.key, .int x.b, .int x.e, .ref p] ∧ BookAt H C a dx m d lv ps room rs ∧ H p = some (.tup (x.am.map V.int)) ∧ x.key.length ≤ 100 ∧
  (x.key ∈ rs.map (·.key) → E (.ref TK) none H) ∧ (x.key ∉ rs.map (·.key) → KeepC Ts C TM a dx m d room rs x H Q E)
/-- a new book -/
def spBInit (C : Addr) : Sp := fun vs H Q _ => ∃ (a dx m : Addr), vs = [.ref a, .ref m] ∧ H a = some (.ins C dx []) ∧
  ∀ d H', Kp [a] H H' → H' a = some (.ins C dx (flds m d .non)) → H d = none → H' d = some (.dK []) → Q .non H'
def lateB (t : Int) (x : Bw) : Bool := !decide (x.e ≤ t)
end My
namespace My
open PySem PySem.Spec PyProof.Rows L2 GX GxR XI
/-! the classes of the refusals: Taken 0, NoKey 1, TooMuch 2, .., HallError 12 -/
def excBK (K : PySem.W.Frag) (D : Addr) : Bool :=
  decide (PySem.W.findIn K (.ref D) "__getattribute__" = some (some (.builtin "BaseException.__getattribute__"))) && (decide (PySem.W.findIn K (.ref D) "__getattr__" = some none) && (decide (PySem.W.subIn K (.ref D) (.type "BaseException") = some true) && (PySem.W.hasDictIn K D
    && (decide (PySem.W.findIn K (.ref D) "__class__" = some (some (.builtin "object.__class__"))) && (decide (PySem.W.specialIn K (.builtin "object.__class__") "__get__" = some (some (.builtin "getset_descriptor.__get__"))) && (decide (PySem.W.takesIn K (.builtin "object.__class__") = some true) && decide (PySem.W.mroIn K D (.type "object") = some true)))))))
theorem excBK_ok {K : PySem.W.Frag} {D : Addr} (h : excBK K D = true) : ExcC K D := by
  unfold excBK at h
  simp only [Bool.and_eq_true, decide_eq_true_eq] at h
  obtain ⟨h1, h2, h3, h4, h5, h6, h7, h8⟩ := h
  exact ⟨h1, h2, h3, h4, h5, h6, h7, h8⟩
/-- own exceptions without an __init__ -/
def excPB (K : PySem.W.Frag) (C : Addr) : Bool := PySem.W.excIn K C [.type "ValueError", .type "Exception", .type "BaseException", .type "object"] "ValueError.__new__" && (PySem.W.keepIn K (.ref C) && (decide (PySem.W.subIn K (.ref C) (.type "BaseException") = some true) && decide (PySem.W.typeIn K (.ref C) = some (.type "type"))))
theorem excPB_ok {K : PySem.W.Frag} {mg : Str → Option Value} {nam : Str} {C : Addr} (g : mg nam = some (.ref C)) (h : excPB K C = true) : ExcP K mg nam C := by
  unfold excPB at h
  simp only [Bool.and_eq_true, decide_eq_true_eq] at h
  exact ⟨h.1, g, h.2.1, h.2.2.1, h.2.2.2⟩
def ownBK (K : PySem.W.Frag) (C fI : Addr) (f : Str) : Bool :=
  decide (PySem.W.findIn K (.ref C) "__setattr__" = some (some (.builtin "object.__setattr__"))) && (decide (PySem.W.typeIn K (.ref C) = some (.type "type")) && (PySem.W.keepIn K (.ref C) && (decide (PySem.W.findIn K (.ref C) "__init__" = some (some (.ref fI))) && (decide (PySem.W.typeIn K (.ref fI) = some (.type "function"))
    && (xfB K C && (decide (PySem.W.findIn K (.ref C) f = some none) && (decide (PySem.W.mroIn K C (.ref C) = some true) && (decide (PySem.W.ks_superIn K C C "__init__" = some (some (.builtin "ValueError.__init__"))) && (decide (PySem.W.subIn K (.ref C) (.type "ValueError") = some true) && decide (PySem.W.nsIn K cStatics "thirdparty.any" = some none))))))))))
/-- the class of books -/
def bookB (K : PySem.W.Frag) (C : Addr) : Bool := PySem.W.plainGet K C Str.empty && (PySem.W.hasDictIn K C && (PySem.W.plainOver K C && (decide (PySem.W.findIn K (.ref C) "__setattr__" = some (some (.builtin "object.__setattr__"))) && (decide (PySem.W.findIn K (.ref C) "room" = some none) && (decide (PySem.W.findIn K (.ref C) "entries" = some none)
  && (decide (PySem.W.findIn K (.ref C) "lefts" = some none) && (PySem.W.makesIn K C && PySem.W.keepIn K (.ref C))))))))
theorem bookB_ok {K : PySem.W.Frag} {C : Addr} (h : bookB K C = true) : BCls K C ∧ ∀ f, PySem.W.findIn K (.ref C) "__init__" = some (some (.ref f)) → PySem.W.isFn K (.ref f) = true → Mk K C f := by
  unfold bookB at h
  simp only [Bool.and_eq_true, decide_eq_true_eq] at h
  obtain ⟨h1, h2, h3, h4, h5, h6, h7, h8, h9⟩ := h
  exact ⟨⟨⟨h1, h2, h3, h4⟩, h5, h6, h7⟩, fun f a b => ⟨h8, a, b, h9⟩⟩
end My
set_option maxHeartbeats 2000000
/-! the head by one run of the kernel: what is read off the state behind the top, and the end of a law by it -/
namespace My
open PySem PySem.W PySem.Spec PyProof.Rows L2
/-- what of the heap is looked at: the objects at these addresses -/
def fragM (n : List Addr) (g : Addr → Option Obj) : Frag := He.frT g n
def obsY (n : List Addr) (fa : List He.Fa) (fn : List He.DefD) (tf : List He.Defn) (ex : Frag → Bool) (β : Type) (ob2 : Frag → β) (g : Addr → Option Obj) : He.AlX × β :=
  ((He.obsT fa fn [] (fragM n g), ex (fragM n g) && He.tabsB g tf (fragM n g)), ob2 (fragM n g))
theorem saysY_of {n : List Addr} {fa : List He.Fa} {fn : List He.DefD} {tf : List He.Defn} {ex : Frag → Bool} {w : World} {h : Heap} (e : (He.obsT fa fn [] (fragM n h.get?), ex (fragM n h.get?) && He.tabsB h.get? tf (fragM n h.get?)) = He.valX fn [] w) : He.SaysX fa fn [] tf ex w h (fragM n h.get?) := by
  obtain ⟨e1, e2⟩ := Prod.mk.inj e
  obtain ⟨e3, e4⟩ := He.ba e2
  have each : ∀ p ∈ tf, codeHdIn (fragM n h.get?) (He.cT (fragM n h.get?) p).1 (He.cT (fragM n h.get?) p).2 = true ∧ ∃ o, h.get? (He.cT (fragM n h.get?) p).2 = some o ∧ He.emptyTab o = true := fun p hp => by
    have h1 := List.all_eq_true.mp e4 p hp
    obtain ⟨h2, h3⟩ := He.ba h1
    refine ⟨h2, ?_⟩
    split at h3
    next o ho => exact ⟨o, ho, h3⟩
    · cases h3
  refine ⟨e1, e3, fun p hp => (each p hp).1, fun p hp => ?_, fun p hp => ?_⟩
  · obtain ⟨o, ho, hb⟩ := (each p hp).2
    exact He.frT_none ho hb
  · obtain ⟨o, ho, hb⟩ := (each p hp).2
    rw [ho, He.emptyTab_eq hb]
/-- as the kit's hook with tables, and one more thing that is read -/
def hookM (n : List Addr) (fa : List He.Fa) (fn : List He.DefD) (tf : List He.Defn) (ex : Frag → Bool) (β : Type) (ob2 : Frag → β) (v2 : β) : Hook where
  α := He.AlX × β
  obs := fun s => obsY n fa fn tf ex β ob2 s.heap.get?
  val := fun w => (He.valX fn [] w, v2)
  says := fun w h => ∃ K : Frag, K.In h ∧ He.SaysX fa fn [] tf ex w h K ∧ ob2 K = v2
  of := fun w s e => by
    obtain ⟨e1, e2⟩ := Prod.mk.inj e
    exact ⟨fragM n s.heap.get?, He.frT_in, saysY_of e1, e2⟩
  keeps := fun w h h' ⟨K, k1, c, e⟩ mono => ⟨K, fun a o l => mono a o (k1 a o l), ⟨c.t, c.more, c.hd, c.out, fun p hp => mono _ _ (c.empty p hp)⟩, e⟩
def obM (n : List Addr) (fa : List He.Fa) (fn : List He.DefD) (tf : List He.Defn) (ex : Frag → Bool) (β : Type) (ob2 : Frag → β) (s : SharedT) : He.AlX × β := obsY n fa fn tf ex β ob2 (HandSHeadRun.getT s)
theorem obM_eq {n : List Addr} {fa : List He.Fa} {fn : List He.DefD} {tf : List He.Defn} {ex : Frag → Bool} {β : Type} {ob2 : Frag → β} {v2 : β} (s : SharedT) : obM n fa fn tf ex β ob2 s = (hookM n fa fn tf ex β ob2 v2).obs s.abs := by
  have e : HandSHeadRun.getT s = s.abs.heap.get? := funext fun a => HandSHeadRun.getT_eq s a
  unfold obM hookM
  rw [e]
/-- a def that raises by its own __init__: what is read of its function -/
abbrev InV : Type := Option (Str × Str × Arguments × FuncBody × Scope × Addr × Value × Addr)
def inObs (C : Str) (K : Frag) : InV :=
  match K.lookup (He.ma K (He.ga K C) "__init__") with
  | some ⟨_, _, .func fd, _⟩ => some (fd.name, fd.qualname, fd.params, fd.body, fd.scope, fd.globals, fd.defaults, fd.builtins)
  | _ => none
def inVal (q : Str) (st : Stmt) : InV := some ("__init__", q, defArgs st, .stmts (defBody st), defScope st, mainGlobals, .none, builtinsNs)
/-- the object of an exception's class -/
def exObB (E : Addr) : Obj → Bool
  | ⟨.type "type", _, .cls ⟨_, _, .ref C :: bm, _, _, true, _, _, _, _, false⟩, ⟨[_, _, _, _, some (.builtin s), _]⟩⟩ => (C == E) && PySem.HandSPX.refsVE bm && (s == "ValueError.__new__")
  | _ => false
theorem exObB_ok {E : Addr} {o : Obj} (h : exObB E o = true) : ∃ (nm q : Str) (N : Addr) (bs bm : List Value) (sn : List Str) (sub : List Value) (ab : Bool) (col : Option Bool) (dd : Option Addr) (k0 k1 k2 k3 k5 : Option Value), o = excClassObj nm q E N bs bm true sn sub ab col dd k0 k1 k2 k3 k5 "ValueError.__new__" ∧ PySem.HandSPX.refsVE bm = true := by
  unfold exObB at h
  split at h
  · rw [Bool.and_eq_true, Bool.and_eq_true] at h
    obtain ⟨⟨h1, h2⟩, h3⟩ := h
    obtain rfl := eq_of_beq h1
    obtain rfl := eq_of_beq h3
    exact ⟨_, _, _, _, _, _, _, _, _, _, _, _, _, _, _, rfl, h2⟩
  · cases h
/-- all that is asked of a class with its own __init__ that raises -/
def inB (C q : Str) (fld file : Str) (K : Frag) : Bool :=
  (match K.lookup (He.ga K C) with
    | some o => exObB (He.ga K C) o
    | none => false) &&
  He.eqO (findIn K (.ref (He.ga K C)) "__init__") (some (some (.ref (He.ma K (He.ga K C) "__init__")))) &&
  (match K.lookup (He.ma K (He.ga K C) "__init__") with
    | some ⟨_, _, .func fd, _⟩ =>
      codeIn K fd.code q &&
      (match fd.code with
        | .ref c => match K.lookup c with
          | some ⟨_, _, .fields vs, _⟩ => match (vs[2]? : Option Value) with
            | some (Value.str f _) => f == file
            | _ => false
          | _ => false
        | _ => false) &&
      (match fd.closure with
        | [(x, cc)] => (x == "__class__") && (match K.lookup cc with
          | some ⟨_, _, .cell (some (.ref D)), _⟩ => D == He.ga K C
          | _ => false)
        | _ => false)
    | _ => false) &&
  ownBK K (He.ga K C) (He.ma K (He.ga K C) "__init__") fld
theorem in_ok {C q fld file : Str} {st : Stmt} {K : Frag} (h : inB C q fld file K = true) (e : inObs C K = inVal q st) :
    ∃ (nm qn : Str) (N : Addr) (bs bm : List Value) (sn : List Str) (sub : List Value) (ab : Bool) (col : Option Bool) (dd : Option Addr) (k0 k1 k2 k3 k5 : Option Value) (oc : Value) (od : Option Addr) (kV doc pm : Value) (an : Option Addr) (cda : Addr) (ct : Value) (cc : Addr) (osl : Array (Option Value)) (ccl : Value) (cdd : Option Addr) (vs : Array Value) (ccs : Array (Option Value)) (tf : Tok) (cl : Value) (cld : Option Addr) (csl : Array (Option Value)),
      K.lookup (He.ga K C) = some (excClassObj nm qn (He.ga K C) N bs bm true sn sub ab col dd k0 k1 k2 k3 k5 "ValueError.__new__") ∧ PySem.HandSPX.refsVE bm = true ∧
      findIn K (.ref (He.ga K C)) "__init__" = some (some (.ref (He.ma K (He.ga K C) "__init__"))) ∧
      K.lookup (He.ma K (He.ga K C) "__init__") = some ⟨oc, od, .func (ksFn "__init__" q (defArgs st) (defBody st) (defScope st) .none kV doc pm an (.ref cda) ct cc), osl⟩ ∧
      codeIn K (.ref cda) q = true ∧ K.lookup cda = some ⟨ccl, cdd, .fields vs, ccs⟩ ∧ vs[2]? = some (.str file tf) ∧
      K.lookup cc = some ⟨cl, cld, .cell (some (.ref (He.ga K C))), csl⟩ ∧ ownBK K (He.ga K C) (He.ma K (He.ga K C) "__init__") fld = true := by
  unfold inB at h
  rw [Bool.and_eq_true, Bool.and_eq_true, Bool.and_eq_true] at h
  obtain ⟨⟨⟨h1, h2⟩, h3⟩, h4⟩ := h
  have h2 := He.eqO_ok h2
  unfold inObs inVal at e
  split at h1
  next o ho =>
    obtain ⟨nm, qn, N, bs, bm, sn, sub, ab, col, dd, k0, k1, k2, k3, k5, rfl, rv⟩ := exObB_ok h1
    split at h3
    next oc od fd sl hf =>
      rw [hf] at e
      have e := Option.some.inj e
      rw [Bool.and_eq_true, Bool.and_eq_true] at h3
      obtain ⟨⟨c1, c2⟩, c3⟩ := h3
      obtain ⟨name, qual, params, body, scope, globals, closure, dfl, kwd, doc, pm, an, code, ct, bn⟩ := fd
      simp only [Prod.mk.injEq] at e
      obtain ⟨rfl, rfl, rfl, rfl, rfl, rfl, rfl, rfl⟩ := e
      dsimp only at c1 c2 c3
      match code, c1, c2 with
      | .ref cda, c1, c2 =>
        dsimp only at c2
        split at c2
        next ccl cdd vs ccs hl =>
          split at c2
          next f tf hv =>
            obtain rfl := eq_of_beq c2
            match closure, c3, hf with
            | [(x, cc)], c3, hf =>
              dsimp only at c3
              rw [Bool.and_eq_true] at c3
              obtain ⟨d1, d2⟩ := c3
              obtain rfl := eq_of_beq d1
              split at d2
              next cl cld D csl hcc =>
                obtain rfl := eq_of_beq d2
                exact ⟨nm, qn, N, bs, bm, sn, sub, ab, col, dd, k0, k1, k2, k3, k5, oc, od, kwd, doc, pm, an, cda, ct, cc, sl, ccl, cdd, vs, ccs, tf, cl, cld, csl, ho, rv, h2, hf, c1, hl, hv, hcc, h4⟩
              · cases d2
            | [], c3, hf => cases c3
            | _ :: _ :: _, c3, hf => cases c3
          · cases c2
        · cases c2
    · cases h3
  · cases h1
/-! as refsEB and clsFB, told here so that the run can stand ahead of all other texts -/
def hxRefs (K : Frag) (cs : List Addr) : Bool :=
  ((List.range 4).all fun i => excBK K (cs.getD i 0) && (((List.range 4).all fun j => decide (PySem.W.kitOne K (.ref (cs.getD i 0)) (.ref (cs.getD j 0)) = some (decide (i = j)))) && (decide (PySem.W.kitOne K (.ref (cs.getD i 0)) (.type "ValueError") = some true)
    && decide (PySem.W.exmOne K (.ref (cs.getD i 0)) (.ref (cs.getD 4 0)) = some true)))) && (xfB K (cs.getD 3 0) && decide (PySem.W.findIn K (.ref (cs.getD 3 0)) "time" = some none))
def hxCls (K : Frag) (C : Addr) (fs : List Str) : Bool := PySem.W.plainGet K C Str.empty && (PySem.W.hasDictIn K C && (PySem.W.plainOver K C && (decide (PySem.W.findIn K (.ref C) "__setattr__" = some (some (.builtin "object.__setattr__"))) && ((fs.all fun n => decide (PySem.W.findIn K (.ref C) n = some none)) && (PySem.W.makesIn K C && PySem.W.keepIn K (.ref C))))))
/-! single facts -/
theorem hx_glo {K : Frag} {x : Str} (h : He.Fa.ok K (.glo x) = true) : nsIn K mainGlobals x = some (some (.ref (He.ga K x))) := He.eqO_ok h
theorem hx_free {K : Frag} {x : Str} (h : He.Fa.ok K (.free x) = true) : nsIn K mainGlobals x = some none := He.eqO_ok h
theorem hx_int {K : Frag} {x : Str} {i : Int} (h : He.Fa.ok K (.int x i) = true) : ∃ tk, nsIn K mainGlobals x = some (some (.int i tk)) := by
  change (match nsIn K mainGlobals x with | some (some (.int j _)) => decide (j = i) | _ => false) = true at h
  split at h
  next j tk e =>
    obtain rfl := of_decide_eq_true h
    exact ⟨tk, e⟩
  · cases h
theorem hx_str {K : Frag} {x z : Str} (h : He.Fa.ok K (.str x z) = true) : ∃ tk, nsIn K mainGlobals x = some (some (.str z tk)) := by
  change (match nsIn K mainGlobals x with | some (some (.str y _)) => decide (y = z) | _ => false) = true at h
  split at h
  next j tk e =>
    obtain rfl := of_decide_eq_true h
    exact ⟨tk, e⟩
  · cases h
theorem hx_meth {K : Frag} {C m : Str} (h : He.Fa.ok K (.meth C m) = true) : findIn K (.ref (He.ga K C)) m = some (some (.ref (He.ma K (He.ga K C) m))) ∧ isFn K (.ref (He.ma K (He.ga K C) m)) = true ∧ keepIn K (.ref (He.ma K (He.ga K C) m)) = true := by
  change (He.eqO _ _ && (isFn K _ && keepIn K _)) = true at h
  rw [Bool.and_eq_true, Bool.and_eq_true] at h
  exact ⟨He.eqO_ok h.1, h.2.1, h.2.2⟩
/-- a def, or a method, as its row's text -/
def dfD (x : Str) (st : Stmt) : He.DefD := ⟨(x, none), x, x, defArgs st, defBody st, defScope st, [], []⟩
def mtD (C m q : Str) (st : Stmt) : He.DefD := ⟨(C, some m), m, q, defArgs st, defBody st, defScope st, [], []⟩
theorem hx_fun {K : Frag} {f : Addr} {x q : Str} {st : Stmt} (h : ∃ fd, FunD K x q (defArgs st) (defBody st) (defScope st) [] [] f fd) : ∃ (oc : Value) (od : Option Addr) (kV doc pm : Value) (an : Option Addr) (cdv ct : Value) (osl : Array (Option Value)),
    K.lookup f = some ⟨oc, od, .func (fnOf x q (defArgs st) (defBody st) (defScope st) .none kV doc pm an cdv ct), osl⟩ ∧ codeIn K cdv q = true ∧ keepIn K (.ref f) = true := by
  obtain ⟨fd, ⟨oc, od, dV, kV, doc, pm, an, cdv, ct, osl, rfl, l, c, d, _⟩, kp⟩ := h
  rcases d with ⟨_, rfl⟩ | ⟨n, _⟩
  · exact ⟨oc, od, kV, doc, pm, an, cdv, ct, osl, l, c, kp⟩
  · exact absurd rfl n
/-- a def with a table of its own: its code and its table stand as the closing theorem asks -/
theorem hx_tab {K : Frag} {c T : Addr} (h : codeHdIn K c T = true) : ∃ (ec : Value) (ed : Option Addr) (vs : Array Value) (es : Array (Option Value)), K.lookup c = some ⟨ec, ed, .fields vs, es⟩ ∧ vs[11]? = some (.ref T) := by
  unfold codeHdIn at h
  split at h
  next ed vs es e =>
    simp only [Bool.and_eq_true] at h
    obtain ⟨⟨⟨⟨⟨h1, _⟩, _⟩, _⟩, _⟩, _⟩ := h
    split at h1
    next P e2 =>
      obtain rfl := eq_of_beq h1
      exact ⟨_, ed, vs, es, e, e2⟩
    · cases h1
  · cases h
/-- the end of a law, where the fragment is only known to be one -/
theorem walk_tabsE {l : PySem.W.OpenLaw} {n k : Nat} {q : Program} {loose : List Str} {XP : (Str → Option Value) → Heap → Prop} {YP : World → Heap → Prop} {d : DefRec} {x : Str}
    (hn : l.most = some n) (hn2 : n ≤ sizeLine) (hdf : d.params.defaults = []) (hr : Room k callerA)
    (F : ∀ (w : World) (mg mb : Str → Option Value) (mean : ExcName → Option Value) (fa : Addr) (h : Heap), PyProof.Rows.Top q (PySem.W.looseW q loose) mean mg mb h → YP w h → mg d.name = some (.ref fa) → ∃ K : Frag, K.In h ∧ LamX.LawAtS l w K CX0 k n x mg fa h) :
    PySem.W.WalkO q loose XP YP l.row.toRowW d [] (fun f vs => PySem.call f vs) := by
  refine Att.attach_callB hn hdf fun w s0 s1 mg mb fa o pm cd doc a vs ns G Y ho hd hcd hmg hobj hints hlen hbits hg => ?_
  obtain ⟨K, KX, fd, cs, sp, h1, h2, h3, h4, h5, h6⟩ := F w mg mb _ fa _ G.T Y hmg
  exact LamX.law_callTs KX G.T.g G.T.b G.T.builtins G.T.nolimit hg h1 h2 h3 G.T.bmain hobj hints (Nat.le_trans hlen hn2) hr h6 h4 (fun H hH hS => h5 H a ns hlen hbits hH hS) fun H e s' z => z
end My
namespace My
open PySem PySem.Spec PyProof.Rows L2 GX GxR
end My
/-! divmod of any two whole numbers, the divisor not too wide -/
namespace My
open PySem PySem.Spec PyProof.Rows L2
/-- a list plus a list, each read as it stands -/
def rCatL (K : PySem.W.Frag) : R2 := fun x y H Q => ∃ l b xs zs, x = .ref l ∧ y = .ref b ∧ SqL K H l xs ∧ SqL K H b zs ∧ xs.length + zs.length ≤ sizeLine ∧ ∀ p, H p = none → Q (.ref p) (upd H p (.lst (xs ++ zs)))
theorem op_catL {X : Cx} : OpR X (binaryOp .Add) (rCatL X.K) := by
  intro pins s σ H x y v u Q I rx ry h
  obtain ⟨l, b, xs, zs, rfl, rfl, hH, hB, hz, q⟩ := h
  cases rx
  cases ry
  obtain ⟨vs, r, p1, _⟩ := I.list hH
  obtain ⟨ws, r2, p2, _⟩ := I.list hB
  obtain ⟨⟨cls, dd, data, sl⟩, ho, hc, n, hd⟩ := id p1.isList
  obtain ⟨⟨cls2, dd2, data2, sl2⟩, ho2, hc2, n2, hd2⟩ := id p2.isList
  simp only at hc hd hc2 hd2
  subst hc hd hc2 hd2
  have l1 := r.length
  have l2 := r2.length
  have e : vs.toArray ++ ws.toArray = (vs ++ ws).toArray := by simp
  refine concat_meets ⟨_, ho, rfl⟩ ⟨_, ho2, rfl⟩ noFill_list_add seq_list_add PySem.F.slot_list_add PySem.F.entry_list_add (PySem.F.args_list_add_2 _ _) (list_addW l b vs.toArray ws.toArray n n2 dd dd2 sl sl2 (by rw [List.size_toArray, List.size_toArray]; omega)) ⟨ho, ho2, ?_⟩
  rw [e]
  exact ⟨.ref _, _, I.lnew (t' := s.toks) (r.append r2) (by rw [List.length_append]; omega), rfl, q _ I.fresh⟩
end My
namespace My
open PySem PySem.Spec PyProof.Rows L2 GX GxR
def topS (i : Nat) : Stmt := PySem.Challenge.pw_clusterhall_k51_spare_houses.main.body.getD i (.Pass ⟨0, 0, 0, 0⟩)
abbrev sBox : Stmt := topS 30
abbrev sTake : Stmt := topS 31
theorem scBox : FnScope ["_law_script", "_law_k", "_law_cell"] ["_law_script", "_law_k"] (defScope sBox) := ⟨rfl, rfl, rfl, by decide +kernel, rfl, by decide +kernel, by decide +kernel⟩
theorem scTake : FnScope ["_law_box_here", "_law_many", "_law_found", "_law_once"] ["_law_box_here", "_law_many"] (defScope sTake) := ⟨rfl, rfl, rfl, by decide +kernel, rfl, by decide +kernel, by decide +kernel⟩
/-- the box of a cell: the script is laid out longer by noughts -/
def spBoxM (K : PySem.W.Frag) : Sp := fun vs H Q _ => ∃ (a : Addr) (ns : List Int) (k : Nat), vs = [.ref a, .int (k : Int)] ∧ SqL K H a (ns.map V.int) ∧ ns.length ≤ 1000 ∧ k ≤ 1000 ∧
  ∀ p xs H', H p = none → Same H H' → BoxV xs 0 → H' p = some (.lst xs) → Q (.ref p) H'
section
variable {P : Program} {w : World} {K : PySem.W.Frag} {mg : Str → Option Value} {base : Heap}
theorem ok_box {f : Addr} {fd : FuncData} {k : Nat} (F : Fun K "_law_box" "_law_box" sBox f fd) (T : Txt mg) : FnOk P w K mg base CX0 (k + 1) f fd ["_law_script", "_law_k"] (spBoxM K) := by
  refine F.ok scBox (fun vs H Q E h => ?_) (fun cdv A outer s H vs Q E hr h => ?_)
  · obtain ⟨a, ns, k, rfl, _⟩ := h
    rfl
  · obtain ⟨a, ns, k, rfl, hS, hn, hk, q⟩ := h
    refine ⟨_, (pss_cons (ps_set (i := 2) scBox.nd rfl (.inl rfl) (pe_ix ix_list (pe_op op_catL (pv 0) (pe_op op_rep (pe_lst (pa_cons pe_int pa_nil)) (pe_op op_add (pv 1) pe_int))) (pv 1) (fun _ _ => rfl)))
(pss_one (ps_ret (pe_lst (pa_cons (pe_op op_mul (pe_callB call_abs (by rfl) T.abs (by decide +kernel) (pa_cons (pv 2) pa_nil)) (pe_callTy call_int1 (by rfl) T.int bt_int (pa_cons (pe_cmpR op_ge (pe_callB call_abs (by rfl) T.abs (by decide +kernel) (pa_cons (pv 2) pa_nil)) (pe_op op_pow pe_int pe_int) (nomark _)) pa_nil))) (pa_cons (pe_op op_mod (pe_op op_mul (pe_op op_add (pe_op op_add (pe_op op_mod (pv 2) pe_int) (pe_op op_mul pe_int (pv 1))) pe_int) pe_int) pe_int) (pa_cons pe_int pa_nil))))))), ?_⟩
    refine ⟨_, rfl, by show 1 ≤ sizeLine; decide, fun l1 n1 => ⟨_, rfl, (k : Int), 1, rfl, rfl, l1, (k : Int) + 1, _, rfl, rfl, upd_same, by omega, by omega, ?_, fun l2 n2 => ?_⟩⟩
    · show 1 * ((k : Int) + 1).toNat ≤ sizeLine
      rw [sizeLine_eq]
      omega
    have s2 : Same H (upd (upd H l1 (.lst [.int 0])) l2 (.lst (List.replicate ((k : Int) + 1).toNat [V.int 0]).flatten)) := (same_upd n1).trans (same_upd n2)
    have e2 : upd (upd H l1 (.lst [.int 0])) l2 (.lst (List.replicate ((k : Int) + 1).toNat [V.int 0]).flatten) l2 = some (.lst ((List.replicate (k + 1) (0 : Int)).map V.int)) := by
      rw [upd_same, show ((k : Int) + 1).toNat = k + 1 by omega]
      congr 2
      have flat : ∀ j : Nat, (List.replicate j [V.int 0]).flatten = (List.replicate j (0 : Int)).map V.int := fun j => by
        induction j with
        | zero => rfl
        | succ j ih => rw [List.replicate_succ, List.replicate_succ, List.flatten_cons, ih]; rfl
      exact flat _
    generalize upd (upd H l1 (.lst [.int 0])) l2 (.lst (List.replicate ((k : Int) + 1).toNat [V.int 0]).flatten) = H2 at s2 e2 ⊢
    have hS2 : SqL K H2 a (ns.map V.int) := (Same.kp [] s2).seq hS (by simp)
    refine ⟨a, l2, _, _, rfl, rfl, hS2, SqL.of e2, ?_, fun l3 n3 => ?_⟩
    · rw [List.length_map, List.length_map, List.length_replicate, sizeLine_eq]
      omega
    have s3 : Same H2 (upd H2 l3 (.lst (ns.map V.int ++ (List.replicate (k + 1) (0 : Int)).map V.int))) := same_upd n3
    have e3 : upd H2 l3 (.lst (ns.map V.int ++ (List.replicate (k + 1) (0 : Int)).map V.int)) l3 = some (.lst ((ns ++ List.replicate (k + 1) (0 : Int)).map V.int)) := by
      rw [upd_same, List.map_append]
    generalize upd H2 l3 (.lst (ns.map V.int ++ (List.replicate (k + 1) (0 : Int)).map V.int)) = H3 at s3 e3 ⊢
    have hk' : k < (ns ++ List.replicate (k + 1) (0 : Int)).length := by rw [List.length_append, List.length_replicate]; omega
    obtain ⟨cell, hcell⟩ : ∃ cell, (ns ++ List.replicate (k + 1) (0 : Int))[k] = cell := ⟨_, rfl⟩
    refine ⟨_, rfl, l3, _, (k : Int), .int cell, rfl, rfl, SqL.of e3, atI_nat (by rw [List.getElem?_map, List.getElem?_eq_getElem hk', hcell]; rfl), ?_⟩
    have b1 : 0 ≤ cell % 2147483647 := Int.emod_nonneg _ (by decide)
    have b2 : cell % 2147483647 < 2147483647 := Int.emod_lt_of_pos _ (by decide)
    have hone : ∀ z : Bool, 0 ≤ (if z = true then (1 : Int) else 0) ∧ (if z = true then (1 : Int) else 0) ≤ 1 := fun z => by cases z <;> decide
    refine ⟨_, rfl, _, rfl, _, rfl, _, rfl, 10, 18, rfl, rfl, ⟨by decide, by decide, by decide⟩, _, _, rfl, rfl, .inr ⟨_, rfl, _, _, rfl, rfl, .inr ⟨?_, ?_⟩, _, rfl, cell, 2147483647, rfl, rfl, (by show (0 : Int) < 2147483647; decide), _, rfl, 7919, (k : Int), rfl, rfl, .inl ⟨by decide, by decide⟩, _, _, rfl, rfl, _, _, rfl, rfl, _, 48271, rfl, rfl, .inr ⟨by decide, by decide⟩, _, 2147483629, rfl, rfl, (by show (0 : Int) < 2147483629; decide), by show 3 ≤ sizeLine; decide, fun p hp => ?_⟩⟩
    · exact Int.lt_of_lt_of_le (by decide) (hone _).1
    · exact Int.lt_of_le_of_lt (hone _).2 (by decide)
    · refine q p _ _ ((s2.trans s3).free hp) ((s2.trans s3).trans (same_upd hp)) ⟨_, _, _, rfl, Int.mul_nonneg ?_ (hone _).1, Int.emod_nonneg _ (by decide), Int.emod_lt_of_pos _ (by decide), Int.le_refl _, Int.le_refl _⟩ upd_same
      split <;> omega
theorem ok_take {f : Addr} {fd : FuncData} {k : Nat} (F : Fun K "_law_take" "_law_take" sTake f fd) : FnOk P w K mg base CX0 (k + 1) f fd ["_law_box_here", "_law_many"] spTakeW := by
  refine F.ok scTake (fun vs H Q E h => ?_) (fun cdv A outer s H vs Q E hr h => ?_)
  · obtain ⟨b, c, many, rfl, _⟩ := h
    rfl
  · obtain ⟨b, c, many, rfl, ⟨xs, hb, d, m, t, rfl, hd, hm, hm2, ht, htc⟩, hmany, hmany2, hc, q⟩ := h
    refine ⟨_, pss_cons (ps_if (pt_cmpR op_gt (pe_ix ix_list (pv 0) pe_int (fun _ _ => rfl)) pe_int (nomark _))
        (pss_cons (ps_set (i := 2) scTake.nd rfl (.inl rfl) (pe_op op_mod (pe_ix ix_list (pv 0) pe_int (fun _ _ => rfl)) (pv 1)))
        (pss_cons (ps_asg (pe_op op_fdivW (pe_ix ix_list (pv 0) pe_int (fun _ _ => rfl)) (pv 1)) (pg_sub (pv 0) pe_int set_list))
        (pss_one (ps_ret (pv 2))))) pss_nil)
      (pss_cons (ps_asg (pe_op op_add (pe_ix ix_list (pv 0) pe_int (fun _ _ => rfl)) pe_int) (pg_sub (pv 0) pe_int set_list))
      (pss_cons (ps_set (i := 3) scTake.nd rfl (.inl rfl) (pe_op op_mod (pe_op op_mul (pe_op op_add (pe_ix ix_list (pv 0) pe_int (fun _ _ => rfl)) (pe_op op_mul pe_int (pe_ix ix_list (pv 0) pe_int (fun _ _ => rfl)))) (pe_op op_add pe_int (pe_ix ix_list (pv 0) pe_int (fun _ _ => rfl)))) pe_int))
      (pss_cons (ps_asg (pe_op op_mod (pe_op op_add (pe_op op_mul (pv 3) (pe_op op_add (pe_op op_mod (pv 3) pe_int) pe_int)) (pe_ix ix_list (pv 0) pe_int (fun _ _ => rfl))) pe_int) (pg_sub (pv 0) pe_int set_list))
      (pss_one (ps_ret (pe_op op_mod (pe_op op_fdiv (pe_op op_mod (pe_op op_mul (pe_ix ix_list (pv 0) pe_int (fun _ _ => rfl)) (pe_op op_add (pe_op op_mod (pe_ix ix_list (pv 0) pe_int (fun _ _ => rfl)) pe_int) pe_int)) pe_int) pe_int) (pv 1))))))), ?_⟩
    refine ⟨.ref b, rfl, b, _, 0, .int d, rfl, rfl, SqL.of hb, rfl, _, 0, rfl, rfl, _, rfl, ite2 (fun e => ?_) (fun e => ?_)⟩
    · have e1 : 0 < d := of_decide_eq_true e
      refine ⟨.ref b, rfl, b, _, 0, .int d, rfl, rfl, SqL.of hb, rfl, .int many, rfl, d, many, rfl, rfl, hmany, ?_⟩
      refine ⟨.ref b, rfl, b, _, 0, .int d, rfl, rfl, SqL.of hb, rfl, .int many, rfl, d, many, rfl, rfl, wideOk hmany hmany2, .ref b, rfl, b, _, 0, 0, rfl, rfl, hb, rfl, _, rfl, ?_⟩
      refine q _ _ (Int.emod_nonneg _ (by omega)) (Int.emod_lt_of_pos _ hmany) (kp_upd (List.mem_singleton.mpr rfl)) ⟨_, upd_same, d / many, m, t, rfl, Int.ediv_nonneg hd (by omega), hm, hm2, ht, by omega⟩
    · have u1 : upd H b (.lst [.int d, .int m, .int (t + 1)]) b = some (.lst [.int d, .int m, .int (t + 1)]) := upd_same
      refine ⟨.ref b, rfl, b, _, 2, .int t, rfl, rfl, SqL.of hb, rfl, t, 1, rfl, rfl, .ref b, rfl, b, _, 2, 2, rfl, rfl, hb, rfl, ?_⟩
      refine ⟨.ref b, rfl, b, _, 1, .int m, rfl, rfl, SqL.of u1, rfl, .ref b, rfl, b, _, 2, .int (t + 1), rfl, rfl, SqL.of u1, rfl, 39373, t + 1, rfl, rfl, .inl ⟨by decide, by decide⟩, m, _, rfl, rfl,
        .ref b, rfl, b, _, 2, .int (t + 1), rfl, rfl, SqL.of u1, rfl, 48271, t + 1, rfl, rfl, _, _, rfl, rfl, .inr ⟨by omega, by omega⟩, _, 2147483647, rfl, rfl, (by show (0 : Int) < 2147483647; decide), ?_⟩
      obtain ⟨once, hon⟩ : ∃ once : Int, (m + 39373 * (t + 1)) * (48271 + (t + 1)) % 2147483647 = once := ⟨_, rfl⟩
      have o1 : 0 ≤ once % 40009 := Int.emod_nonneg _ (by decide)
      have o2 : once % 40009 < 40009 := Int.emod_lt_of_pos _ (by decide)
      obtain ⟨m3, hm3⟩ : ∃ m3 : Int, (once * (once % 40009 + 7) + (t + 1)) % 2147483629 = m3 := ⟨_, rfl⟩
      have m1 : 0 ≤ m3 := by rw [← hm3]; exact Int.emod_nonneg _ (by decide)
      have m2 : m3 < 2147483629 := by rw [← hm3]; exact Int.emod_lt_of_pos _ (by decide)
      have hon' : V.int ((m + 39373 * (t + 1)) * (48271 + (t + 1)) % 2147483647) = .int once := congrArg V.int hon
      have hm3' : V.int ((once * (once % 40009 + 7) + (t + 1)) % 2147483629) = .int m3 := congrArg V.int hm3
      have u2 : upd (upd H b (.lst [.int d, .int m, .int (t + 1)])) b (.lst [.int d, .int ((once * (once % 40009 + 7) + (t + 1)) % 2147483629), .int (t + 1)]) b = some (.lst [.int d, .int m3, .int (t + 1)]) := by rw [hm3', upd_same]
      refine ⟨_, rfl, _, rfl, once, 40009, hon', rfl, (by show (0 : Int) < 40009; decide), _, 7, rfl, rfl, once, _, hon', rfl, .inr ⟨by omega, by omega⟩, .ref b, rfl, b, _, 2, .int (t + 1), rfl, rfl, SqL.of u1, rfl, _, _, rfl, rfl, _, 2147483629, rfl, rfl, (by show (0 : Int) < 2147483629; decide),
        .ref b, rfl, b, _, 1, 1, rfl, rfl, u1, rfl, ?_⟩
      refine ⟨.ref b, rfl, b, _, 1, .int m3, rfl, rfl, SqL.of u2, rfl, .ref b, rfl, b, _, 1, .int m3, rfl, rfl, SqL.of u2, rfl, m3, 1009, rfl, rfl, (by show (0 : Int) < 1009; decide), _, 3, rfl, rfl, m3, _, rfl, rfl, .inl ⟨by omega, by omega⟩, _, 998244353, rfl, rfl, (by show (0 : Int) < 998244353; decide), _, 7, rfl, rfl, ⟨by decide, by decide⟩, .int many, rfl, _, many, rfl, rfl, hmany, ?_⟩
      exact q _ _ (Int.emod_nonneg _ (by omega)) (Int.emod_lt_of_pos _ hmany) ((kp_upd (List.mem_singleton.mpr rfl)).trans (kp_upd (List.mem_singleton.mpr rfl))) ⟨_, u2, d, m3, t + 1, rfl, hd, m1, m2, by omega, by omega⟩
end
end My
namespace My
open PySem PySem.Spec PyProof.Rows L2 GX GxR
abbrev s_scNothing : Stmt := topS 2
abbrev n_scNothing : List Str := ["wares"]
theorem scNothing : FnScope n_scNothing ["wares"] (defScope s_scNothing) := ⟨rfl, rfl, rfl, by decide +kernel, rfl, by decide +kernel, by decide +kernel⟩
abbrev s_scSum : Stmt := topS 3
abbrev n_scSum : List Str := ["one", "other", "a", "b"]
theorem scSum : FnScope n_scSum ["one", "other"] (defScope s_scSum) := ⟨rfl, rfl, rfl, by decide +kernel, rfl, by decide +kernel, by decide +kernel⟩
abbrev s_scLess : Stmt := topS 4
abbrev n_scLess : List Str := ["one", "other", "a", "b"]
theorem scLess : FnScope n_scLess ["one", "other"] (defScope s_scLess) := ⟨rfl, rfl, rfl, by decide +kernel, rfl, by decide +kernel, by decide +kernel⟩
abbrev s_scFits : Stmt := topS 5
abbrev n_scFits : List Str := ["one", "other", "a", "b"]
theorem scFits : FnScope n_scFits ["one", "other"] (defScope s_scFits) := ⟨rfl, rfl, rfl, by decide +kernel, rfl, by decide +kernel, by decide +kernel⟩
abbrev s_scTurns : Stmt := topS 21
abbrev n_scTurns : List Str := ["rows", "turns", "key", "begin", "end", "amount"]
theorem scTurns : FnScope n_scTurns ["rows"] (defScope s_scTurns) := ⟨rfl, rfl, rfl, by decide +kernel, rfl, by decide +kernel, by decide +kernel⟩
abbrev s_scLoads : Stmt := topS 22
abbrev n_scLoads : List Str := ["wares", "rows", "loads", "load", "time", "turn", "amount", "edges", "begin", "end"]
theorem scLoads : FnScope n_scLoads ["wares", "rows"] (defScope s_scLoads) := ⟨rfl, rfl, rfl, by decide +kernel, rfl, by decide +kernel, by decide +kernel⟩
abbrev s_scFirst : Stmt := topS 23
abbrev n_scFirst : List Str := ["room", "rows", "begin", "end", "load"]
theorem scFirst : FnScope n_scFirst ["room", "rows"] (defScope s_scFirst) := ⟨rfl, rfl, rfl, by decide +kernel, rfl, by decide +kernel, by decide +kernel⟩
section
variable {P : Program} {w : World} {K : PySem.W.Frag} {mg : Str → Option Value} {base : Heap}
theorem ok_nothing {f : Addr} {fd : FuncData} {k : Nat} (F : Fun K "nothing_of" "nothing_of" s_scNothing f fd) : FnOk P w K mg base CX0 (k + 1) f fd ["wares"] spNothing := by
  refine F.ok scNothing (fun vs H Q E h => ?_) (fun cdv A outer s H vs Q E hr h => ?_)
  · obtain ⟨k, rfl, _⟩ := h
    rfl
  · obtain ⟨k, rfl, h1, h2, q⟩ := h
    refine ⟨_, pss_one (ps_ret (pe_op op_repU (pe_tup (pa_cons pe_int pa_nil)) (pv 0))), ?_⟩
    refine ⟨by show 1 ≤ sizeLine; decide, fun t nt => ⟨_, rfl, t, (k : Int), [.int 0], rfl, rfl, SqT.of upd_same, by simp, by omega, by omega, by decide, fun z => ?_, fun z p np => ?_⟩⟩
    · have z' : k = 1 := by omega
      subst z'
      exact q t _ (same_upd nt) nt upd_same
    · refine q p _ ((same_upd nt).trans (same_upd np)) ((same_upd nt).free np) ?_
      rw [upd_same, Int.toNat_natCast, rep_flat, List.map_replicate]
theorem ok_sum {f : Addr} {fd : FuncData} {k : Nat} (F : Fun K "amount_sum" "amount_sum" s_scSum f fd) (X : Txt mg) : FnOk P w K mg base CX0 (k + 1) f fd ["one", "other"] (spZipS K (· + ·)) := by
  refine F.ok scSum (fun vs H Q E h => ?_) (fun cdv A outer s H vs Q E hr h => ?_)
  · obtain ⟨a, b, xs, ys, rfl, _⟩ := h
    rfl
  · obtain ⟨a, b, xs, ys, rfl, hX, hY, hl, q⟩ := h
    refine ⟨_, (pss_one (ps_ret (pe_callTy call_tuple_of (by rfl) X.tup bt_tuple (pa_cons (pe_lc (own := [("a", 2), ("b", 3)]) (g := (gTup K 2 (gCons (gName 2) (gCons (gName 3) gNil)))) (tt := tYes) rfl scSum.nd (RZ.pi_zipA (by rfl) X.zip (pa_cons (pv 0) (pa_cons (pv 1) pa_nil))) (blkOk_by (own := [("a", 2), ("b", 3)]) (N := n_scSum) (sc := defScope s_scSum) (by decide +kernel)) (fun _ _ _ _ _ => (pg_tup rfl (pgs_cons (pg_name (i := 2) scSum.nd rfl (.inl rfl)) (pgs_cons (pg_name (i := 3) scSum.nd rfl (.inl rfl)) pgs_nil)))) (fun _ _ _ _ _ => pts_nil) (fun _ _ _ _ _ => (pe_op op_add (pv 2) (pv 3)))) pa_nil)))), ?_⟩
    refine ⟨_, rfl, _, rfl, a, b, _, _, rfl, .inr ⟨hX, hY, fun D nD => lc_it (walk_zipT (xs := xs.map V.int) (ys := ys.map V.int) rfl) (fun i H' => Same H H' ∧ H' D = some (.lst (((List.zipWith (· + ·) xs ys).take i).map V.int))) ⟨same_upd nD, upd_same⟩ (fun i H' _ p => ⟨same_seqT p.1 hX, same_seqT p.1 hY⟩) (fun i v H3 H4 hi p y => ?_) (fun H3 p => ?_)⟩⟩
    · obtain ⟨T1, x1, x2, rfl, nT, rfl, g1, g2⟩ := y
      obtain ⟨p1, p2⟩ := p
      obtain ⟨x, hx, rfl⟩ := get_int g1
      obtain ⟨y, hy, rfl⟩ := get_int g2
      have s3 : Same H3 (upd H3 T1 (.tup [.int x, .int y])) := same_upd nT
      have hi2 : i < xs.length := (List.getElem?_eq_some_iff.mp hx).1
      refine ⟨T1, [.int x, .int y], rfl, SqT.of upd_same, rfl, .int x, [.int y], rfl, .int y, [], rfl, rfl, rfl, ?_⟩
      refine ⟨_, rfl, _, rfl, x, y, rfl, rfl, _, s3 _ _ p2, ?_, same_putA (p1.trans s3) nD, ?_⟩
      · rw [List.length_map, List.length_take]
        exact small1000 (by omega)
      · rw [upd_same, zw_take hx hy, List.map_append]
        rfl
    · obtain ⟨p1, p2⟩ := p
      rw [List.take_of_length_le (by rw [List.length_zipWith, List.length_map, List.length_map]; exact Nat.le_refl _)] at p2
      refine ⟨D, _, rfl, .inl ⟨SqL.of p2, fun d nd => ?_⟩⟩
      exact q d _ (p1.trans (same_upd nd)) (p1.free nd) upd_same
theorem ok_less {f : Addr} {fd : FuncData} {k : Nat} (F : Fun K "amount_less" "amount_less" s_scLess f fd) (X : Txt mg) : FnOk P w K mg base CX0 (k + 1) f fd ["one", "other"] (spZipS K (· - ·)) := by
  refine F.ok scLess (fun vs H Q E h => ?_) (fun cdv A outer s H vs Q E hr h => ?_)
  · obtain ⟨a, b, xs, ys, rfl, _⟩ := h
    rfl
  · obtain ⟨a, b, xs, ys, rfl, hX, hY, hl, q⟩ := h
    refine ⟨_, (pss_one (ps_ret (pe_callTy call_tuple_of (by rfl) X.tup bt_tuple (pa_cons (pe_lc (own := [("a", 2), ("b", 3)]) (g := (gTup K 2 (gCons (gName 2) (gCons (gName 3) gNil)))) (tt := tYes) rfl scLess.nd (RZ.pi_zipA (by rfl) X.zip (pa_cons (pv 0) (pa_cons (pv 1) pa_nil))) (blkOk_by (own := [("a", 2), ("b", 3)]) (N := n_scLess) (sc := defScope s_scLess) (by decide +kernel)) (fun _ _ _ _ _ => (pg_tup rfl (pgs_cons (pg_name (i := 2) scLess.nd rfl (.inl rfl)) (pgs_cons (pg_name (i := 3) scLess.nd rfl (.inl rfl)) pgs_nil)))) (fun _ _ _ _ _ => pts_nil) (fun _ _ _ _ _ => (pe_op op_sub (pv 2) (pv 3)))) pa_nil)))), ?_⟩
    refine ⟨_, rfl, _, rfl, a, b, _, _, rfl, .inr ⟨hX, hY, fun D nD => lc_it (walk_zipT (xs := xs.map V.int) (ys := ys.map V.int) rfl) (fun i H' => Same H H' ∧ H' D = some (.lst (((List.zipWith (· - ·) xs ys).take i).map V.int))) ⟨same_upd nD, upd_same⟩ (fun i H' _ p => ⟨same_seqT p.1 hX, same_seqT p.1 hY⟩) (fun i v H3 H4 hi p y => ?_) (fun H3 p => ?_)⟩⟩
    · obtain ⟨T1, x1, x2, rfl, nT, rfl, g1, g2⟩ := y
      obtain ⟨p1, p2⟩ := p
      obtain ⟨x, hx, rfl⟩ := get_int g1
      obtain ⟨y, hy, rfl⟩ := get_int g2
      have s3 : Same H3 (upd H3 T1 (.tup [.int x, .int y])) := same_upd nT
      have hi2 : i < xs.length := (List.getElem?_eq_some_iff.mp hx).1
      refine ⟨T1, [.int x, .int y], rfl, SqT.of upd_same, rfl, .int x, [.int y], rfl, .int y, [], rfl, rfl, rfl, ?_⟩
      refine ⟨_, rfl, _, rfl, x, y, rfl, rfl, _, s3 _ _ p2, ?_, same_putA (p1.trans s3) nD, ?_⟩
      · rw [List.length_map, List.length_take]
        exact small1000 (by omega)
      · rw [upd_same, zw_take hx hy, List.map_append]
        rfl
    · obtain ⟨p1, p2⟩ := p
      rw [List.take_of_length_le (by rw [List.length_zipWith, List.length_map, List.length_map]; exact Nat.le_refl _)] at p2
      refine ⟨D, _, rfl, .inl ⟨SqL.of p2, fun d nd => ?_⟩⟩
      exact q d _ (p1.trans (same_upd nd)) (p1.free nd) upd_same
theorem ok_fits {f c T : Addr} {fd : FuncData} {k : Nat} (F : FunC K "amount_fits" "amount_fits" s_scFits f fd c) (X : Txt mg) (TB : TabB base mg c T) : FnOk P w K mg base CX0 (k + 1) f fd ["one", "other"] (spFits K T) := by
  refine F.ok scFits (fun vs H Q E h => ?_) (fun A outer s H vs Q E hr h => ?_)
  · obtain ⟨a, b, xs, ys, rfl, _⟩ := h
    rfl
  · obtain ⟨a, b, xs, ys, rfl, hX, hY, hT, q⟩ := h
    refine ⟨_, pss_one (ps_ret (pe_allG (by rfl) X.all (by decide +kernel) (pgn_zip hr TB rfl (genS_of (by decide +kernel)) rfl (by decide) (by rfl) X.zip (pa_cons (pv 0) (pa_cons (pv 1) pa_nil)) (elt_le rfl rfl rfl) (fun _ => rfl)))), ?_⟩
    refine ⟨_, rfl, _, rfl, a, b, _, _, rfl, hX, hY, hT, zip_ints xs ys, _, zip_bl (op := fun i j => decide (i ≤ j)) (fun _ _ => rfl) xs ys, fun H2 hT2 => ?_⟩
    exact q H2 hT2.1 (kp_of_tabbed hT2)
theorem turn_step {H H' : Hp} {D : Addr} {us : List Addr} {Us : List Tn} {u : Tn} {T p : Addr} (nT : H T = none) (hp : H p = some (.tup (u.am.map V.int))) (eD : H D = some (.lst (us.map V.ref))) (pr : Paired (TnAt H) us Us) (e : H' = upd (upd H T (.tup [.int u.t, .int u.k, .ref p])) D (.lst (us.map V.ref ++ [.ref T]))) :
    H' D = some (.lst ((us ++ [T]).map V.ref)) ∧ Paired (TnAt H') (us ++ [T]) (Us ++ [u]) := by
  have k1 : KTu H (upd H T (.tup [.int u.t, .int u.k, .ref p])) := kt_new nT
  have eD1 := same_upd (o := .tup [.int u.t, .int u.k, .ref p]) nT _ _ eD
  have k2 : KTu (upd H T (.tup [.int u.t, .int u.k, .ref p])) H' := by
    rw [e]
    exact kt_put eD1 (fun xs z => by cases z)
  refine ⟨by rw [e, upd_same, List.map_append]; rfl, Paired.snoc (pr.mono fun _ _ x => x.kt (k1.trans k2)) ⟨p, k2 _ _ upd_same, k2 _ _ (k1 _ _ hp)⟩⟩
set_option maxHeartbeats 2000000 in
theorem ok_turns {f : Addr} {fd : FuncData} {k : Nat} {tb te : Tok} (F : Fun K "turns_of" "turns_of" s_scTurns f fd) (mSorted : mg "sorted" = none) (mB : mg "BEGINS" = some (.int 1 tb)) (mE : mg "ENDS" = some (.int 0 te)) :
    FnOk P w K mg base CX0 (k + 1) f fd ["rows"] (spTurns K) := by
  refine F.ok scTurns (fun vs H Q E h => ?_) (fun cdv A outer s H vs Q E hr h => ?_)
  · obtain ⟨a, as, rs, rfl, _⟩ := h
    rfl
  · obtain ⟨a, as, rs, rfl, hA, prs, few, q⟩ := h
    have la : as.length = rs.length := prs.length
    refine ⟨_, (pss_cons (ps_setLc (i := 1) (own := [("key", 2), ("begin", 3), ("end", 4), ("amount", 5)]) (g := (gTup K 4 (gCons (gName 2) (gCons (gName 3) (gCons (gName 4) (gCons (gName 5) gNil)))))) (tt := tYes) rfl scTurns.nd rfl rfl (sw_true rfl rfl rfl (by decide +kernel)) (pi_list (pv 0)) (blkOk_by (own := [("key", 2), ("begin", 3), ("end", 4), ("amount", 5)]) (N := n_scTurns) (sc := defScope s_scTurns) (by decide +kernel)) (fun _ _ _ _ _ => (pg_tup rfl (pgs_cons (pg_name (i := 2) scTurns.nd rfl (.inl rfl)) (pgs_cons (pg_name (i := 3) scTurns.nd rfl (.inl rfl)) (pgs_cons (pg_name (i := 4) scTurns.nd rfl (.inl rfl)) (pgs_cons (pg_name (i := 5) scTurns.nd rfl (.inl rfl)) pgs_nil)))))) (fun _ _ _ _ _ => pts_nil) (fun _ _ _ _ _ => (pe_tup (pa_cons (pv 3) (pa_cons (pe_glob (v := .int 1) (by rfl) mB ⟨_, rfl⟩) (pa_cons (pv 5) pa_nil))))))
      (pss_cons (ps_aug (i := 1) scTurns.nd rfl (.inl rfl) (pe_lc (own := [("key", 2), ("begin", 3), ("end", 4), ("amount", 5)]) (g := (gTup K 4 (gCons (gName 2) (gCons (gName 3) (gCons (gName 4) (gCons (gName 5) gNil)))))) (tt := tYes) rfl scTurns.nd (pi_list (pv 0)) (blkOk_by (own := [("key", 2), ("begin", 3), ("end", 4), ("amount", 5)]) (N := n_scTurns) (sc := defScope s_scTurns) (by decide +kernel)) (fun _ _ _ _ _ => (pg_tup rfl (pgs_cons (pg_name (i := 2) scTurns.nd rfl (.inl rfl)) (pgs_cons (pg_name (i := 3) scTurns.nd rfl (.inl rfl)) (pgs_cons (pg_name (i := 4) scTurns.nd rfl (.inl rfl)) (pgs_cons (pg_name (i := 5) scTurns.nd rfl (.inl rfl)) pgs_nil)))))) (fun _ _ _ _ _ => pts_nil) (fun _ _ _ _ _ => (pe_tup (pa_cons (pv 4) (pa_cons (pe_glob (v := .int 0) (by rfl) mE ⟨_, rfl⟩) (pa_cons (pv 5) pa_nil)))))) iop_ext)
      (pss_one (ps_ret (pe_callB (cr_sortD hr.units) (by rfl) mSorted (by decide +kernel) (pa_cons (pv 1) pa_nil)))))), ?_⟩
    refine ⟨_, rfl, a, rfl, ⟨_, hA⟩, fun D nD => ?_⟩
    refine lc_list (K := K) (a := a) (xs := as.map V.ref) (fun i H' => Same H H' ∧ ∃ us, H' D = some (.lst (us.map V.ref)) ∧ Paired (TnAt H') us ((rs.take i).map begT))
      ⟨same_upd nD, [], upd_same, .nil⟩ (fun i H' _ p => p.1.seq hA) (fun i x H3 hx p => ?_) (fun H3 p => ?_)
    · obtain ⟨p1, us, p2, p3⟩ := p
      obtain ⟨ra, hra, rfl⟩ := map_get hx
      obtain ⟨R, hR, am, r1, r2⟩ := paired_get prs hra
      have lu := p3.length
      rw [List.length_map, List.length_take] at lu
      refine ⟨ra, _, rfl, SqT.of (p1 _ _ r1), rfl, _, _, rfl, _, _, rfl, _, _, rfl, _, _, rfl, rfl, rfl, ?_⟩
      refine ⟨_, rfl, _, rfl, by show 3 ≤ sizeLine; decide, fun T nT => ⟨_, same_upd nT _ _ p2, ?_, same_put (p1.trans (same_upd nT)) nD, us ++ [T], ?_⟩⟩
      · rw [List.length_map]
        exact small63 (by omega)
      · rw [List.take_add_one, hR, show (rs.take i ++ (some R).toList).map begT = (rs.take i).map begT ++ [begT R] from List.map_append]
        exact turn_step (u := begT R) nT (p1 _ _ r2) p2 p3 rfl
    obtain ⟨p1, us, p2, p3⟩ := p
    rw [List.length_map, List.take_of_length_le (by omega)] at p3
    refine ⟨_, rfl, _, rfl, a, rfl, ⟨_, p1.seq hA⟩, fun D2 nD2 => ?_⟩
    have nD2' := p1.free nD2
    have nDD : D ≠ D2 := fun z => by
      rw [← z, p2] at nD2
      cases nD2
    refine lc_list (K := K) (a := a) (xs := as.map V.ref) (fun i H' => Same H3 H' ∧ ∃ us, H' D2 = some (.lst (us.map V.ref)) ∧ Paired (TnAt H') us ((rs.take i).map endT))
      ⟨same_upd nD2, [], upd_same, .nil⟩ (fun i H' _ p => (p1.trans p.1).seq hA) (fun i x H4 hx p => ?_) (fun H4 p => ?_)
    · obtain ⟨q1, vs, q2, q3⟩ := p
      obtain ⟨ra, hra, rfl⟩ := map_get hx
      obtain ⟨R, hR, am, r1, r2⟩ := paired_get prs hra
      have s4 := p1.trans q1
      have lu := q3.length
      rw [List.length_map, List.length_take] at lu
      refine ⟨ra, _, rfl, SqT.of (s4 _ _ r1), rfl, _, _, rfl, _, _, rfl, _, _, rfl, _, _, rfl, rfl, rfl, ?_⟩
      refine ⟨_, rfl, _, rfl, by show 3 ≤ sizeLine; decide, fun T nT => ⟨_, same_upd nT _ _ q2, ?_, same_put (q1.trans (same_upd nT)) nD2, vs ++ [T], ?_⟩⟩
      · rw [List.length_map]
        exact small63 (by omega)
      · rw [List.take_add_one, hR, show (rs.take i ++ (some R).toList).map endT = (rs.take i).map endT ++ [endT R] from List.map_append]
        exact turn_step (u := endT R) nT (s4 _ _ r2) q2 q3 rfl
    obtain ⟨q1, vs, q2, q3⟩ := p
    rw [List.length_map, List.take_of_length_le (by omega)] at q3
    have l1 := p3.length
    have l2 := q3.length
    rw [List.length_map] at l1 l2
    refine ⟨D, D2, _, _, rfl, rfl, q1 _ _ p2, q2, ?_, ?_⟩
    · rw [List.length_map, List.length_map]
      exact Nat.le_of_lt (small63 (by omega))
    have kt5 : KTu H4 (upd H4 D (.lst (us.map V.ref ++ vs.map V.ref))) := kt_put (q1 _ _ p2) (fun xs z => by cases z)
    have s5 : Same H (upd H4 D (.lst (us.map V.ref ++ vs.map V.ref))) := same_put (p1.trans q1) nD
    have e5 : upd H4 D (.lst (us.map V.ref ++ vs.map V.ref)) D = some (.lst ((us ++ vs).map V.ref)) := by rw [upd_same, List.map_append]
    have pr5 : Paired (TnAt (upd H4 D (.lst (us.map V.ref ++ vs.map V.ref)))) (us ++ vs) (turns rs) := (paired_app (p3.mono fun _ _ x => x.kt (Same.kt q1)) q3).mono fun _ _ x => x.kt kt5
    generalize upd H4 D (.lst (us.map V.ref ++ vs.map V.ref)) = H5 at s5 e5 pr5 ⊢
    obtain ⟨ps, y1, y2, y3⟩ := paired_zip pr5
    refine ⟨_, rfl, D, _, encT H5, rfl, SqL.of e5, fun x hx => ?_, fun d1 h1 d2 h2 => ?_, .inl fun d1 h1 => ?_, fun x hx => ?_, fun st nst => ?_⟩
    · obtain ⟨b, hb, rfl⟩ := List.mem_map.mp hx
      rw [← y1] at hb
      obtain ⟨p, hp, rfl⟩ := List.mem_map.mp hb
      rw [encT_of (y3 p hp)]
      exact dp_tn (y3 p hp)
    · obtain ⟨x, hx, rfl⟩ := List.mem_map.mp h1
      obtain ⟨y, hy, rfl⟩ := List.mem_map.mp h2
      obtain ⟨b, hb, rfl⟩ := List.mem_map.mp hx
      obtain ⟨c, hc, rfl⟩ := List.mem_map.mp hy
      rw [← y1] at hb hc
      obtain ⟨p, hp, rfl⟩ := List.mem_map.mp hb
      obtain ⟨p', hp', rfl⟩ := List.mem_map.mp hc
      rw [encT_of (y3 p hp), encT_of (y3 p' hp')]
      exact alike_tn _ _
    · obtain ⟨x, hx, rfl⟩ := List.mem_map.mp h1
      obtain ⟨b, hb, rfl⟩ := List.mem_map.mp hx
      rw [← y1] at hb
      obtain ⟨p, hp, rfl⟩ := List.mem_map.mp hb
      rw [encT_of (y3 p hp)]
      exact ⟨_, _, rfl⟩
    · obtain ⟨b, hb, rfl⟩ := List.mem_map.mp hx
      rw [← y1] at hb
      obtain ⟨p, hp, rfl⟩ := List.mem_map.mp hb
      rw [encT_of (y3 p hp)]
      exact Nat.le_trans (dpt_tn _) (by decide)
    obtain ⟨qs, x1, x2, x3⟩ := sort_tns y3
    rw [y1] at x2
    rw [x2]
    refine q st _ (qs.map (·.1)) (qs.map (·.2)) (s5.trans (same_upd nst)) (s5.free nst) upd_same (paired_of fun p hp => (y3 p (x1.mem_iff.mp hp)).kt (kt_new nst)) ?_ x3
    rw [← y2]
    exact x1.map _
set_option maxHeartbeats 2000000 in
theorem ok_loads {f fN fU fP fM : Addr} {fd fdN fdU fdP fdM : FuncData} {k : Nat} {tb : Tok} (F : Fun K "loads_of" "loads_of" s_scLoads f fd) (X : Txt mg) (mB : mg "BEGINS" = some (.int 1 tb))
    (GN : FnOk P w K mg base CX0 k fN fdN ["wares"] spNothing) (mN : mg "nothing_of" = some (.ref fN)) (kN : PySem.W.keepIn K (.ref fN) = true) (bN : L2.Binds K fdN ["wares"] [])
    (GU : FnOk P w K mg base CX0 k fU fdU ["rows"] (spTurns K)) (mU : mg "turns_of" = some (.ref fU)) (kU : PySem.W.keepIn K (.ref fU) = true) (bU : L2.Binds K fdU ["rows"] [])
    (GP : FnOk P w K mg base CX0 k fP fdP ["one", "other"] (spZipS K (· + ·))) (mP : mg "amount_sum" = some (.ref fP)) (kP : PySem.W.keepIn K (.ref fP) = true) (bP : L2.Binds K fdP ["one", "other"] [])
    (GM : FnOk P w K mg base CX0 k fM fdM ["one", "other"] (spZipS K (· - ·))) (mM : mg "amount_less" = some (.ref fM)) (kM : PySem.W.keepIn K (.ref fM) = true) (bM : L2.Binds K fdM ["one", "other"] []) :
    FnOk P w K mg base CX0 (k + 1) f fd ["wares", "rows"] (spLoads K) := by
  refine F.ok scLoads (fun vs H Q E h => ?_) (fun cdv A outer s H vs Q E hr h => ?_)
  · obtain ⟨a, w, as, rs, rfl, _⟩ := h
    rfl
  · obtain ⟨a, w, as, rs, rfl, hA, prs, ok, w1, w2, q⟩ := h
    refine ⟨_, (pss_cons (ps_set (i := 2) scLoads.nd rfl (.inr rfl) pe_dnewK)
      (pss_cons (ps_set (i := 3) scLoads.nd rfl (.inl rfl) (pe_call GN hr (by rfl) mN kN bN .nil pass0 (pa_cons (pv 0) pa_nil)))
      (C8.pss_cut (ps_for PassesOwn.never rfl (pi_list (pe_call GU hr (by rfl) mU kU bU .nil pass0 (pa_cons (pv 1) pa_nil))) (pg_tup rfl (pgs_cons (pg_name (i := 4) scLoads.nd rfl (.inl rfl)) (pgs_cons (pg_name (i := 5) scLoads.nd rfl (.inl rfl)) (pgs_cons (pg_name (i := 6) scLoads.nd rfl (.inl rfl)) pgs_nil))))
        (pss_cons (ps_set (i := 3) scLoads.nd rfl (.inl rfl) (pe_ifExp (pt_cmpR op_eq (pv 5) (pe_glob (v := .int 1) (by rfl) mB ⟨_, rfl⟩) (nomark _)) (pe_call GP hr (by rfl) mP kP bP .nil pass0 (pa_cons (pv 3) (pa_cons (pv 6) pa_nil))) (pe_call GM hr (by rfl) mM kM bM .nil pass0 (pa_cons (pv 3) (pa_cons (pv 6) pa_nil)))))
        (pss_one (ps_dput (hu_of hr) (pv 2) (pv 4) (pv 3) rfl))))
      (pss_cons (ps_set (i := 7) scLoads.nd rfl (.inl rfl) (pe_callTy (call_listD rfl) (by rfl) X.lst bt_list (pa_cons (pv 2) pa_nil)))
      (pss_one (ps_ret (pe_lc (own := [("begin", 8), ("end", 9)]) (g := (gTup K 2 (gCons (gName 8) (gCons (gName 9) gNil)))) (tt := tYes) rfl scLoads.nd (RZ.pi_zipA (by rfl) X.zip (pa_cons (pv 7) (pa_cons (pe_slice sl_list (pv 7) (po_some pe_int) po_none) pa_nil))) (blkOk_by (own := [("begin", 8), ("end", 9)]) (N := n_scLoads) (sc := defScope s_scLoads) (by decide +kernel)) (fun _ _ _ _ _ => (pg_tup rfl (pgs_cons (pg_name (i := 8) scLoads.nd rfl (.inl rfl)) (pgs_cons (pg_name (i := 9) scLoads.nd rfl (.inl rfl)) pgs_nil)))) (fun _ _ _ _ _ => pts_nil) (fun _ _ _ _ _ => (pe_tup (pa_cons (pv 8) (pa_cons (pv 9) (pa_cons (pe_dget (hu_of hr) (pv 2) (pv 8) (fun _ _ => rfl)) pa_nil)))))))))))), ?_⟩
    refine fun d nd => ?_
    have s0 : Same H (upd H d (.dK [])) := same_upd nd
    have ed0 : upd H d (.dK []) d = some (.dK []) := upd_same
    generalize upd H d (.dK []) = H0 at s0 ed0 ⊢
    refine ⟨_, rfl, w, rfl, w1, by omega, fun z0 H1 s1 nz0 ez0 => ?_⟩
    have s01 := s0.trans s1
    refine ⟨fun σ H' => ∃ (y3 y4 y5 y6 : Option V) (ps : List (Key × V)) (ks : List Int) (Us : List Tn), σ = [some (.int (w : Int)), some (.ref a), some (.ref d), y3, y4, y5, y6, none, none, none] ∧ Same H H' ∧ H' d = some (.dK ps) ∧ Gath H' w Us ps ks ∧ Us.Perm (turns rs), ?_, fun σ H' hm => ?_⟩
    · refine ⟨_, rfl, a, as, rs, rfl, s01.seq hA, prs.mono fun _ _ x => x.kt (Same.kt s01), ok.few, fun p H2 us Us s2 np ep pu pm so => ⟨p, rfl, ⟨_, SqL.of ep⟩, ?_⟩⟩
      have s02 := s01.trans s2
      have ed2 := s2 _ _ (s1 _ _ ed0)
      have lus : us.length = Us.length := pu.length
      have lU : Us.length ≤ 400 := by
        rw [pm.length_eq]
        unfold turns
        rw [List.length_append, List.length_map, List.length_map]
        have := ok.few
        omega
      have amU : ∀ u ∈ Us, u.am.length = w := fun u hu => by
        rcases List.mem_append.mp (pm.mem_iff.mp hu) with z | z
        · obtain ⟨x, hx, rfl⟩ := List.mem_map.mp z
          exact ok.len x hx
        · obtain ⟨x, hx, rfl⟩ := List.mem_map.mp z
          exact ok.len x hx
      have pd : p ≠ d := fun z => by
        rw [z, ed2] at ep
        cases ep
      refine for_list (xs := us.map V.ref) (fun i σ H' => ∃ (l : Addr) (y4 y5 y6 : Option V) (ps : List (Key × V)) (ks : List Int), σ = [some (.int (w : Int)), some (.ref a), some (.ref d), some (.ref l), y4, y5, y6, none, none, none] ∧ Kp [d] H2 H' ∧ H' d = some (.dK ps) ∧ Gath H' w (Us.take i) ps ks ∧ ks.length ≤ i ∧ H' l = some (.tup ((sumT w (Us.take i)).map V.int)))
        ⟨z0, none, none, none, [], [], rfl, Kp.refl _ _, ed2, Gath.nil, Nat.le_refl _, ?_⟩ (fun i σ H' _ p => ?_) (fun i x σ H3 hx p => ?_) (fun σ H3 p => ?_)
      · rw [List.take_zero, sumT_nil]
        exact s2 _ _ ez0
      · obtain ⟨_, _, _, _, _, _, _, k2, _⟩ := p
        exact SqL.of (k2 _ _ (fun z => pd (List.mem_singleton.mp z)) ep)
      · obtain ⟨l, y4, y5, y6, ps, ks, rfl, k2, ed3, gt, lk, el⟩ := p
        obtain ⟨ru, hru, rfl⟩ := map_get hx
        obtain ⟨u, hu, tu⟩ := paired_get pu hru
        have kt2 : KTu H2 H3 := fun x xs e => k2 _ _ (fun z => by
          rw [List.mem_singleton.mp z, ed2] at e
          cases e) e
        obtain ⟨am, t1, t2⟩ := tu.kt kt2
        have hi : i < us.length := (List.getElem?_eq_some_iff.mp hru).1
        have hum := List.mem_of_getElem? hu
        have lam := amU u hum
        have tk : Us.take (i + 1) = Us.take i ++ [u] := by
          rw [List.take_add_one, hu]
          rfl
        have le : ∀ x ∈ Us.take i, x.t ≤ u.t := fun x hx => by
          obtain ⟨j, hj⟩ := List.mem_iff_getElem?.mp hx
          rw [List.getElem?_take] at hj
          split at hj
          · rename_i lt
            obtain ⟨a1, b1⟩ := List.getElem?_eq_some_iff.mp hj
            obtain ⟨a2, b2⟩ := List.getElem?_eq_some_iff.mp hu
            rw [← b1, ← b2]
            exact List.pairwise_iff_getElem.mp so j i a1 a2 lt
          · cases hj
        have fin : ∀ (p3 : Addr) (H4 : Hp), Same H3 H4 → H4 p3 = some (.tup ((sumT w (Us.take (i + 1))).map V.int)) → ∃ H5, DPut H4 d (.int u.t) (.ref p3) H5 ∧
            (∃ (l : Addr) (y4 y5 y6 : Option V) (ps : List (Key × V)) (ks : List Int), [some (V.int (w : Int)), some (.ref a), some (.ref d), some (.ref p3), some (.int u.t), some (.int u.k), some (.ref am), none, none, none] = [some (V.int (w : Int)), some (.ref a), some (.ref d), some (.ref l), y4, y5, y6, none, none, none] ∧ Kp [d] H2 H5 ∧ H5 d = some (.dK ps) ∧ Gath H5 w (Us.take (i + 1)) ps ks ∧ ks.length ≤ i + 1 ∧ H5 l = some (.tup ((sumT w (Us.take (i + 1))).map V.int))) := fun p3 H4 s4 e4 => by
          have ed4 := s4 _ _ ed3
          have lp := gt.len
          have g4 := gt.kt (Same.kt s4)
          rw [tk] at e4 ⊢
          obtain ⟨ls, g5⟩ := g4.put le e4
          have k5 : KTu H4 (upd H4 d (.dK (putK ps (Sum.inl u.t) (.ref p3)))) := kt_put ed4 (fun xs z => by cases z)
          have l5 : ls.length ≤ ps.length + 1 := by
            have e := congrArg List.length g5.keys
            rw [List.length_map, List.length_map] at e
            rw [← e]
            unfold putK
            split
            · rw [List.length_map]
              omega
            · rw [List.length_append]
              exact Nat.le_refl _
          refine ⟨_, DPut.k (k := (Sum.inl u.t : Key)) ed4 (small63 (by omega)), p3, _, _, _, _, ls, rfl, ?_, upd_same, g5.kt k5, by omega, k5 _ _ e4⟩
          exact fun x o nx e => by
            rw [upd_ne fun z => nx (List.mem_singleton.mpr z)]
            exact s4 _ _ (k2 _ _ nx e)
        refine ⟨ru, _, rfl, SqT.of t1, rfl, _, _, rfl, _, _, rfl, _, _, rfl, rfl, ?_⟩
        refine ⟨_, rfl, rfl, _, rfl, ite2 (fun e => ?_) (fun e => ?_)⟩
        · have ek : u.k = 1 := by
            have := of_decide_eq_true e
            injection this
          refine ⟨_, rfl, _, rfl, l, am, _, _, rfl, SqT.of el, SqT.of t2, by rw [sumT_len]; omega, fun p3 H4 s4 n4 e4 => ?_⟩
          rw [sumT_add ek lam, ← tk] at e4
          obtain ⟨H5, d5, r5⟩ := fin p3 H4 s4 e4
          exact ⟨_, rfl, _, rfl, _, rfl, d, H5, rfl, d5, r5⟩
        · have ek : u.k ≠ 1 := fun z => e (by rw [z]; rfl)
          refine ⟨_, rfl, _, rfl, l, am, _, _, rfl, SqT.of el, SqT.of t2, by rw [sumT_len]; omega, fun p3 H4 s4 n4 e4 => ?_⟩
          rw [sumT_sub ek lam, ← tk] at e4
          obtain ⟨H5, d5, r5⟩ := fin p3 H4 s4 e4
          exact ⟨_, rfl, _, rfl, _, rfl, d, H5, rfl, d5, r5⟩
      · obtain ⟨l, y4, y5, y6, ps, ks, rfl, k2, ed3, gt, lk, el⟩ := p
        rw [List.length_map, List.take_of_length_le (by omega)] at gt
        exact ⟨_, _, _, _, ps, ks, Us, rfl, same_kp s02 nd k2, ed3, gt, pm⟩
    obtain ⟨y3, y4, y5, y6, ps, ks, Us, rfl, s3, ed3, gt, pm⟩ := hm
    refine ⟨_, rfl, d, ps, rfl, Rd.of ed3, fun e ne => ?_⟩
    have ek : (ps.map fun kv => kV kv.1) = ks.map V.int := by
      have := congrArg (List.map kV) gt.keys
      rw [List.map_map, List.map_map] at this
      exact this
    rw [ek]
    have s4 : Same H' (upd H' e (.lst (ks.map V.int))) := same_upd ne
    have ee4 : upd H' e (.lst (ks.map V.int)) e = some (.lst (ks.map V.int)) := upd_same
    generalize upd H' e (.lst (ks.map V.int)) = H4 at s4 ee4 ⊢
    refine ⟨_, rfl, _, rfl, 1, rfl, e, _, rfl, SqL.of ee4, fun sl nsl => ?_⟩
    rw [show (1 : Int) = ((1 : Nat) : Int) from rfl, cut_drop, ← List.map_drop]
    have s5 : Same H4 (upd H4 sl (.lst ((ks.drop 1).map V.int))) := same_upd nsl
    have es5 : upd H4 sl (.lst ((ks.drop 1).map V.int)) sl = some (.lst ((ks.drop 1).map V.int)) := upd_same
    generalize upd H4 sl (.lst ((ks.drop 1).map V.int)) = H5 at s5 es5 ⊢
    have ee5 := s5 _ _ ee4
    have s35 := s4.trans s5
    have ed5 := s35 _ _ ed3
    have g5 := gt.kt (Same.kt s35)
    have lk : ks.length ≤ 400 := by
      have h1 : ks.Nodup := gt.inc.imp fun h z => by omega
      have h2 : ∀ t ∈ ks, t ∈ Us.map (·.t) := fun t ht => by
        obtain ⟨u, hu, e⟩ := (gt.mem t).mp ht
        exact List.mem_map.mpr ⟨u, hu, e⟩
      have h3 := nodup_len h1 h2
      rw [List.length_map, pm.length_eq] at h3
      unfold turns at h3
      rw [List.length_append, List.length_map, List.length_map] at h3
      have := ok.few
      omega
    refine ⟨e, sl, _, _, rfl, .inl ⟨SqL.of ee5, SqL.of es5, fun D nD => ?_⟩⟩
    refine lc_it (walk_zip (K := K) (a := e) (b := sl) (xs := ks.map V.int) (ys := (ks.drop 1).map V.int) rfl) (fun i H' => Same H5 H' ∧ ∃ ls, H' D = some (.lst (ls.map V.ref)) ∧ Paired (LdAt w rs H') ls ((ks.zip (ks.drop 1)).take i))
      ⟨same_upd nD, [], upd_same, .nil⟩ (fun i H' _ p => ⟨SqL.of (p.1 _ _ ee5), SqL.of (p.1 _ _ es5)⟩) (fun i v H6 H7 hi p y => ?_) (fun H6 p => ?_)
    · obtain ⟨T1, x1, x2, rfl, nT, rfl, g1, g2⟩ := y
      obtain ⟨p1, ls, p2, p3⟩ := p
      obtain ⟨x, hx, rfl⟩ := get_int g1
      obtain ⟨y, hy, rfl⟩ := get_int g2
      have s6 : Same H6 (upd H6 T1 (.tup [.int x, .int y])) := same_upd nT
      have s56 := p1.trans s6
      obtain ⟨av, v1, v2⟩ := (g5.kt (Same.kt s56)).get hx
      rw [net_eq ok.lt pm] at v2
      have lu := p3.length
      rw [List.length_take] at lu
      have hik : i < ks.length := (List.getElem?_eq_some_iff.mp hx).1
      refine ⟨T1, [.int x, .int y], rfl, SqT.of upd_same, rfl, .int x, [.int y], rfl, .int y, [], rfl, rfl, rfl, ?_⟩
      refine ⟨_, rfl, _, rfl, _, rfl, _, rfl, d, .ref av, rfl, .inl ⟨ps, (Sum.inl x : Key), .inl (s56 _ _ ed5), rfl, v1.symm⟩, by show 3 ≤ sizeLine; decide, fun T nT2 => ⟨_, same_upd nT2 _ _ (s6 _ _ p2), ?_, same_put (s56.trans (same_upd nT2)) nD, ls ++ [T], ?_⟩⟩
      · rw [List.length_map]
        exact small63 (by omega)
      · have k1 : KTu (upd H6 T1 (.tup [.int x, .int y])) (upd (upd H6 T1 (.tup [.int x, .int y])) T (.tup [.int x, .int y, .ref av])) := kt_new nT2
        have k2 : KTu (upd (upd H6 T1 (.tup [.int x, .int y])) T (.tup [.int x, .int y, .ref av])) (upd (upd (upd H6 T1 (.tup [.int x, .int y])) T (.tup [.int x, .int y, .ref av])) D (.lst (ls.map V.ref ++ [.ref T]))) := kt_put (same_upd nT2 _ _ (s6 _ _ p2)) (fun xs z => by cases z)
        refine ⟨by rw [upd_same, List.map_append]; rfl, ?_⟩
        rw [List.take_add_one, (List.getElem?_zip_eq_some (z := (x, y))).mpr ⟨hx, hy⟩]
        exact Paired.snoc (p3.mono fun _ _ x => x.kt ((Same.kt s6).trans (k1.trans k2))) ⟨av, k2 _ _ upd_same, k2 _ _ (k1 _ _ v2)⟩
    · obtain ⟨p1, ls, p2, p3⟩ := p
      rw [List.take_of_length_le (by rw [List.length_zip, List.length_map, List.length_map]; exact Nat.le_refl _)] at p3
      have sf := s3.trans s35
      exact q D H6 ls ks (sf.trans p1) (sf.free nD) p2 (gt.srt pm) p3
theorem ok_first {f fD fF T : Addr} {fd fdD fdF : FuncData} {k : Nat} {Ts : List Addr} (iT : T ∈ Ts) (F : Fun K "first_over" "first_over" s_scFirst f fd) (X : Txt mg)
    (GD : FnOk P w K mg base CX0 k fD fdD ["wares", "rows"] (spLoads K)) (mD : mg "loads_of" = some (.ref fD)) (kD : PySem.W.keepIn K (.ref fD) = true) (bD : L2.Binds K fdD ["wares", "rows"] [])
    (GF : FnOk P w K mg base CX0 k fF fdF ["one", "other"] (spFits K T)) (mF : mg "amount_fits" = some (.ref fF)) (kF : PySem.W.keepIn K (.ref fF) = true) (bF : L2.Binds K fdF ["one", "other"] []) :
    FnOk P w K mg base CX0 (k + 1) f fd ["room", "rows"] (spOver K Ts) := by
  refine F.ok scFirst (fun vs H Q E h => ?_) (fun cdv A outer s H vs Q E hr h => ?_)
  · obtain ⟨m, a, room, as, rs, rfl, _⟩ := h
    rfl
  · obtain ⟨m, a, room, as, rs, rfl, hM, hA, prs, ok, r1, r2, nn, tH, q⟩ := h
    refine ⟨_, (C8.pss_cut (ps_for PassesOwn.never rfl (pi_list (pe_call GD hr (by rfl) mD kD bD .nil pass0 (pa_cons (pe_callB call_len_seq (by rfl) X.len PySem.boot_len (pa_cons (pv 0) pa_nil)) (pa_cons (pv 1) pa_nil)))) (pg_tup rfl (pgs_cons (pg_name (i := 2) scFirst.nd rfl (.inl rfl)) (pgs_cons (pg_name (i := 3) scFirst.nd rfl (.inl rfl)) (pgs_cons (pg_name (i := 4) scFirst.nd rfl (.inl rfl)) pgs_nil))))
        (pss_one (ps_if (pt_not (pt_val (pe_call GF hr (by rfl) mF kF bF .nil pass0 (pa_cons (pv 4) (pa_cons (pv 0) pa_nil)))))
          (pss_one (ps_ret (pv 2)))
          pss_nil)))
      (pss_one (ps_ret pe_non))), ?_⟩
    refine ⟨fun σ H' => ∃ ks, Fw Ts H H' ∧ Srt rs ks ∧ ks.find? (ovr room.length rs room) = none, ?_, fun σ H' hm => ?_⟩
    · refine ⟨_, rfl, m, _, rfl, .inr hM, _, rfl, a, room.length, as, rs, by rw [List.length_map]; rfl, hA, prs, ok, r1, r2, fun p H1 ls ks s1 np ep sr pl => ⟨p, rfl, ⟨_, SqL.of ep⟩, ?_⟩⟩
      have f1 := Fw.same tH s1
      have t1 := f1.tabs
      have ll := pl.length
      rw [List.length_zip, List.length_drop] at ll
      refine for_list (xs := ls.map V.ref) (fun i σ H' => ∃ (y2 y3 y4 : Option V), σ = [some (.ref m), some (.ref a), y2, y3, y4] ∧ Fw Ts H1 H' ∧ ∀ (j : Nat) (x : Int), j < i → ks[j]? = some x → ovr room.length rs room x = false)
        ⟨none, none, none, rfl, Fw.refl t1, fun j x hj => absurd hj (Nat.not_lt_zero _)⟩ (fun i σ H' _ p => ?_) (fun i x σ H3 hx p => ?_) (fun σ H3 p => ?_)
      · obtain ⟨_, _, _, _, f2, _⟩ := p
        exact SqL.of (f2.lst t1 ep)
      · obtain ⟨y2, y3, y4, rfl, f2, no⟩ := p
        obtain ⟨rl, hrl, rfl⟩ := map_get hx
        obtain ⟨z, hz, ld⟩ := paired_get pl hrl
        obtain ⟨pn, l1, l2⟩ := ld.kt (f2.kt t1)
        obtain ⟨hk, _⟩ := List.getElem?_zip_eq_some.mp hz
        have f12 := f1.trans f2
        refine ⟨rl, _, rfl, SqT.of l1, rfl, _, _, rfl, _, _, rfl, _, _, rfl, rfl, ?_⟩
        refine ⟨_, rfl, _, rfl, pn, m, _, room, rfl, SqT.of l2, f12.seqT tH hM, f2.tabs T iT, fun H4 t4 k4 => ?_⟩
        have f4 := f2.trans (Fw.step f2.tabs iT k4 t4)
        refine ⟨_, rfl, ite2 (fun e => ?_) (fun e => ?_)⟩
        · have f14 := f1.trans f4
          have hq := q H4 ks f14 sr
          rw [find_at no hk e] at hq
          exact ⟨_, rfl, hq⟩
        · refine ⟨_, _, _, rfl, f4, fun j x hj hx => ?_⟩
          rcases Nat.lt_succ_iff_lt_or_eq.mp hj with h | h
          · exact no j x h hx
          · rw [h, hk] at hx
            cases hx
            exact eq_false_of_ne_true e
      · obtain ⟨y2, y3, y4, rfl, f2, no⟩ := p
        refine ⟨ks, f1.trans f2, sr, find_no fun x hx => ?_⟩
        obtain ⟨j, hj⟩ := List.mem_iff_getElem?.mp hx
        by_cases c : j < ls.length
        · exact no j x (by rw [List.length_map]; exact c) hj
        · have hl : j < ks.length := (List.getElem?_eq_some_iff.mp hj).1
          refine last_fits sr nn ?_
          rw [List.getLast?_eq_getElem?, show ks.length - 1 = j by omega]
          exact hj
    · obtain ⟨ks, f1, sr, no⟩ := hm
      have hq := q H' ks f1 sr
      rw [no] at hq
      exact hq
end
end My
set_option maxHeartbeats 1000000
namespace SX
open PySem PySem.W PySem.Spec PyProof.Rows L2
/-! sorted of a dict and of a list, texts all, however many -/
theorem rise_of : ∀ (l : List Str) (p : Str), (p :: l).Pairwise (fun a b => ltCps b.cps.toList a.cps.toList = false) → risingS p l = true
  | [], _, _ => rfl
  | x :: r, p, h => by
    rw [List.pairwise_cons] at h
    show (!ltCps x.cps.toList p.cps.toList && risingS x r) = true
    rw [h.1 x List.mem_cons_self, rise_of r x h.2]
    rfl
theorem sorted_of {l : List Str} (h : l.Pairwise (fun a b => ltCps b.cps.toList a.cps.toList = false)) : sortedS l = true := by
  cases l with
  | nil => rfl
  | cons x r => exact rise_of r x h
theorem merge_sorted (ys : List Str) : sortedS (ys.mergeSort (dataLe false PyData.str)) = true := by
  have tl := sortLe_total (listOrd itemOrd) false fun z : Str => keyToks (PyData.str z)
  have so := List.pairwise_mergeSort (le := dataLe false PyData.str) (fun a b c => tl.trans a b c) (fun a b => by rw [Bool.or_eq_true]; exact tl.total a b) ys
  refine sorted_of (so.imp fun {a b} h => ?_)
  have h' : (!dataLt (PyData.str b) (PyData.str a)) = true := h
  rw [dataLt_str, lt_meets] at h'
  simpa using h'
section
variable {X : Cx}
theorem str_alike (ys : List Str) : AllAlike (ys.map PyData.str) := by
  intro d hd d' hd'
  obtain ⟨z, _, rfl⟩ := List.mem_map.mp hd
  obtain ⟨z', _, rfl⟩ := List.mem_map.mp hd'
  rfl
theorem str_sortable (ys : List Str) : Sortable (ys.map PyData.str) := .inr fun d hd => by
  obtain ⟨z, _, rfl⟩ := List.mem_map.mp hd
  exact ⟨(fun h => by cases h), (fun xs h => by cases h)⟩
theorem each_str : ∀ {ys : List Str} {us : List Value}, Vals (ys.map V.str) us → EachIs (fun (v : Value) (z : Str) => RelV (.str z) v) us ys
  | [], us, r => by cases r; exact .nil
  | z :: ys, us, r => by cases r with | cons r t => exact .cons r (each_str t)
theorem vals_str {us : List Value} {ys : List Str} (e : EachIs (fun (v : Value) (z : Str) => RelV (.str z) v) us ys) : Vals (ys.map V.str) us := by
  induction e with
  | nil => exact .nil
  | cons r t ih => exact .cons r ih
/-- sorted(d), d's keys texts -/
def rSortDk : List V → Hp → VK → Prop := fun xs H Q => ∃ (a : Addr) (kvs : List (Key × V)) (ks : List Str), xs = [.ref a] ∧ Rd H a (.dK kvs) ∧ kvs.map (·.1) = ks.map Sum.inr ∧ ks.length < 1000 ∧ ∀ ys p, ys.Perm ks → sortedS ys = true → H p = none → Q (.ref p) (upd H p (.lst (ys.map V.str)))
theorem cr_sortDk (hcalm : X.calm = true) (hu : X.A.units + 64 < cLine) : CallR X (.builtin "sorted") rSortDk := by
  intro pins s σ H xs us Q I r h
  obtain ⟨a, kvs, ks, rfl, hd, hks, few, q⟩ := h
  rw [Vals.ref1 r]
  obtain ⟨z, lo, vs, rel, dd⟩ := dk_rd I.hok hd
  obtain ⟨ep, hat⟩ := dd.dictAt
  have kk : vs.map (·.1) = ks.map Sum.inr := rel.keys.symm.trans hks
  have len : vs.length = ks.length := by simpa using congrArg List.length kk
  have fits : vs.length ≤ sizeLine := by rw [len, sizeLine_eq]; omega
  refine Calls.call_function_entry kind_sorted plain_sorted entry_sorted (args_sorted1 _) ?_
  unfold Builtin.«sorted»
  refine wpAny_bind (m := checkCount "sorted" 1 1 _) (wpAny_pure ?_)
  refine wpAny_bind (PySem.W.kdu_collect (A := X.A.in1) (PySem.W.kdl_dict (knd := mixKind X.prog X.w) (kvs := vs) (ep := ep) lo) (I.ok.hd hcalm) hat fits fun h1 tk acc keep got => ?_)
  have la : acc.toList.length = ks.length := by rw [Array.length_toList, got.1, len]
  have tx : ∀ {us : List Value} {ks : List Str}, us.length = ks.length → (∀ (j : Nat) (v : Value) (k : Str), us[j]? = some v → ks[j]? = some k → RelV (.str k) v) → Vals (ks.map V.str) us := by
    intro us
    induction us with
    | nil =>
      intro ks l _
      cases ks with
      | nil => exact .nil
      | cons k ks => simp at l
    | cons u us ih =>
      intro ks l g
      cases ks with
      | nil => simp at l
      | cons k ks => exact .cons (g 0 u k rfl rfl) (ih (by simpa using l) fun j v k h1 h2 => g (j + 1) v k (by simpa using h1) (by simpa using h2))
  have r1 : Vals (ks.map V.str) acc.toList := tx la fun j v y e1 e2 => by
    obtain ⟨k, x, g1, g2⟩ := got.2 j v (by rw [← Array.getElem?_toList]; exact e1)
    have e3 : (vs.map (·.1))[j]? = some k := by rw [List.getElem?_map, g1]; rfl
    rw [kk, List.getElem?_map, e2] at e3
    have e5 : Sum.inr y = k := Option.some.inj e3
    subst e5
    obtain ⟨t, ev⟩ := Value.isStrOf_shape (x := y) (v := v) g2
    exact ⟨t, ev⟩
  have I1 : Inv X pins σ H { s with heap := h1, toks := tk } := I.kept keep
  have ea := each_str r1
  have lz : acc.toList.length ≤ sizeLine := by rw [la, ← len]; exact fits
  refine wpAny_bind (wpAny_newList ?_ lz)
  have hoL : (h1.push (seqObj "list" acc.toList.toArray 0)).get? h1.objs.size = some (seqObj "list" acc.toList.toArray 0) := Heap.get?_push_size _ rfl
  show wpAny _ _ _ _ _ { s with heap := h1.push (seqObj "list" acc.toList.toArray 0), toks := tk }
  refine wpAny_bind (wpAny_holding (list_sort_data (s := { s with heap := h1.push (seqObj "list" acc.toList.toArray 0), toks := tk }) (enc := PyData.str) hoL ea (ea.mono fun v z r => ?_) (str_alike ks) (str_sortable ks) (by rw [← la]; exact lz) (fun z hz => ?_) fun out lo eo => ?_))
  · obtain ⟨t, rfl⟩ := r
    exact ⟨[], Reads.str .., fun h => nomatch h⟩
  · show X.A.units + 1 + 1 + 0 < cLine
    omega
  obtain ⟨c, at1⟩ := sortedHeap_at (vs := acc.toList) (out := out.toArray) hoL
  have sz : ((ks.mergeSort (dataLe false PyData.str)).map V.str).length ≤ sizeLine := by
    rw [List.length_map, List.length_mergeSort, ← len]
    exact fits
  refine wpAny_pure ⟨_, rfl, .ref h1.objs.size, upd H h1.objs.size (.lst ((ks.mergeSort (dataLe false PyData.str)).map V.str)), I1.laid (t' := tk) (fun b u e => ?_) (Nat.le_refl _) ⟨sz, out, c, vals_str eo, at1⟩, rfl, q _ _ (List.mergeSort_perm _ _) (merge_sorted ks) (I1.hok.fresh (Nat.le_refl _))⟩
  have hb := Heap.lt_size e
  rw [sortedHeap_old (Nat.ne_of_lt hb) (by rw [size_push']; exact Nat.lt_succ_of_lt hb)]
  exact Heap.get?_push_of_some _ e
/-- sorted(xs), xs a list of texts -/
def rSortSk (K : PySem.W.Frag) : List V → Hp → VK → Prop := fun vs H Q => ∃ (a : Addr) (xs : List Str), vs = [V.ref a] ∧ SqL K H a (xs.map V.str) ∧ xs.length < 1000 ∧ ∀ (ys : List Str) (p : Addr), ys.Perm xs → sortedS ys = true → H p = none → Q (.ref p) (upd H p (.lst (ys.map V.str)))
theorem cr_sortSk (hu : X.A.units + 64 < cLine) : CallR X (.builtin "sorted") (rSortSk X.K) := by
  intro pins s σ H vs us Q I r h
  obtain ⟨a, xs, rfl, hs, few, q⟩ := h
  obtain ⟨its, rv, hl, hz⟩ := I.list hs
  rw [Vals.ref1 r]
  have ea := each_str rv
  refine sorted_data (enc := PyData.str) hl.isList ea (ea.mono fun v z r => ?_) (str_alike xs) (str_sortable xs) (by rw [List.length_map] at hz; exact hz) (fun z hz => ?_) fun out ho eo => ?_
  · obtain ⟨t, rfl⟩ := r
    exact ⟨[], Reads.str ..⟩
  · show X.A.units + 2 + 0 < cLine
    omega
  obtain ⟨ep, at1⟩ := sortedAll_at s.heap its out.toArray
  refine ⟨.ref _, upd H (s.heap.objs.size + 1) (.lst ((xs.mergeSort (dataLe false PyData.str)).map V.str)), I.laid (t' := s.toks) (fun _ _ => sortedAll_old) (Nat.le_succ _) ⟨?_, out, ep, vals_str eo, at1⟩, rfl, q _ _ (List.mergeSort_perm _ _) (merge_sorted xs) (I.hok.fresh (Nat.le_succ _))⟩
  rw [List.length_map, List.length_mergeSort]
  rw [List.length_map] at hz
  exact hz
end
end SX
namespace My
open PySem PySem.Spec PyProof.Rows L2 GX GxR
def methS (i j : Nat) : Stmt := (mbody (topS i)).getD j (.Pass ⟨0, 0, 0, 0⟩)
abbrev s_scERows : Stmt := methS 24 8
abbrev n_scERows : List Str := ["self", "key"]
theorem scERows : FnScope n_scERows ["self"] (defScope s_scERows) := ⟨rfl, rfl, rfl, by decide +kernel, rfl, by decide +kernel, by decide +kernel⟩
abbrev s_scWRoom : Stmt := methS 24 11
abbrev n_scWRoom : List Str := ["self"]
theorem scWRoom : FnScope n_scWRoom ["self"] (defScope s_scWRoom) := ⟨rfl, rfl, rfl, by decide +kernel, rfl, by decide +kernel, by decide +kernel⟩
section
variable {P : Program} {w : World} {K : PySem.W.Frag} {mg : Str → Option Value} {base : Heap} {C : Addr}
theorem ok_erows {f : Addr} {fd : FuncData} {k : Nat} (F : Fun K "entry_rows" "Book.entry_rows" s_scERows f fd) (mSorted : mg "sorted" = none) (c : BCls K C) : FnOk P w K mg base CX0 (k + 1) f fd ["self"] (spERows K C) := by
  refine F.ok scERows (fun vs H Q E h => ?_) (fun cdv A outer s H vs Q E hr h => ?_)
  · obtain ⟨a, dx, m, d, lv, ps, room, rs, rfl, _⟩ := h
    rfl
  · obtain ⟨a, dx, m, d, lv, ps, room, rs, rfl, B, q⟩ := h
    refine ⟨_, (pss_one (ps_ret (pe_lc (own := [("key", 1)]) (g := (gName 1)) (tt := tYes) (te := (tDGet (tFld K (tVar 0) "entries") (tVar 1))) rfl scERows.nd (pi_list (pe_callB (SX.cr_sortDk rfl hr.units) (by rfl) mSorted (by decide +kernel) (pa_cons (pe_fld (pv 0) (by rfl)) pa_nil))) (blkOk_by (own := [("key", 1)]) (N := n_scERows) (sc := defScope s_scERows) (by decide +kernel)) (fun _ _ _ _ _ => (pg_name (i := 1) scERows.nd rfl (.inl rfl))) (fun _ _ _ _ _ => pts_nil) (fun _ _ _ _ _ => (pe_dget (hu_of hr) (pe_fld (pv 0) (by rfl)) (pv 1) (fun _ _ => rfl)))))), ?_⟩
    refine ⟨_, rfl, a, C, dx, _, .ref d, rfl, B.obj, c.cls, c.entries, rfl, d, ps, rs.map (·.key), rfl, Rd.of B.en, en_keys B.prs, by rw [List.length_map]; have := B.few; omega, fun ys p pm so np => ?_⟩
    have ly : ys.length = rs.length := by rw [pm.length_eq, List.length_map]
    have few := B.few
    have s1 : Same H (upd H p (.lst (ys.map V.str))) := same_upd np
    have e1 : upd H p (.lst (ys.map V.str)) p = some (.lst (ys.map V.str)) := upd_same
    generalize upd H p (.lst (ys.map V.str)) = H1 at s1 e1 ⊢
    have B1 := B.same s1
    refine ⟨p, rfl, ⟨_, SqL.of e1⟩, fun D nD => ?_⟩
    refine lc_list (K := K) (a := p) (xs := ys.map V.str) (fun i H' => Same H1 H' ∧ ∃ (as : List Addr) (ss : List Bw), H' D = some (.lst (as.map V.ref)) ∧ Paired (BwAt H') as ss ∧ ss.map (·.key) = ys.take i ∧ ∀ x ∈ ss, x ∈ rs)
      ⟨same_upd nD, [], [], upd_same, .nil, rfl, fun _ h => (nomatch h)⟩ (fun i H' _ p => SqL.of (p.1 _ _ e1)) (fun i x H2 hx p => ?_) (fun H2 p => ?_)
    · obtain ⟨p1, as, ss, p2, p3, p4, p5⟩ := p
      obtain ⟨z, hz, rfl⟩ := map_get hx
      have hi : i < ys.length := (List.getElem?_eq_some_iff.mp hz).1
      have B2 := B1.same p1
      obtain ⟨r, y, v1, v2, v3, v4⟩ := B2.get (pm.mem_iff.mp (List.mem_of_getElem? hz))
      have kt : KTu H2 (upd H2 D (.lst (as.map V.ref ++ [.ref r]))) := kt_put p2 (fun xs z => by cases z)
      have l4 := congrArg List.length p4
      have l3 := p3.length
      rw [List.length_map, List.length_take] at l4
      refine ⟨rfl, ?_⟩
      refine ⟨_, rfl, a, C, dx, _, .ref d, rfl, B2.obj, c.cls, c.entries, rfl, _, rfl, d, .ref r, rfl, dgetR (Rd.of B2.en) v1, ?_⟩
      refine ⟨_, p2, ?_, same_put p1 nD, as ++ [r], ss ++ [y], ?_, Paired.snoc (p3.mono fun _ _ x => x.kt kt) (v2.kt kt), ?_, fun x hx => ?_⟩
      · rw [List.length_map]
        exact small63 (by omega)
      · rw [upd_same, List.map_append]
        rfl
      · rw [List.map_append, p4, List.take_add_one, hz, ← v4]
        rfl
      · rcases List.mem_append.mp hx with z | z
        · exact p5 x z
        · rw [List.mem_singleton.mp z]
          exact v3
    · obtain ⟨p1, as, ss, p2, p3, p4, p5⟩ := p
      rw [List.length_map, List.take_length] at p4
      exact q D H2 as ss (s1.trans p1) (s1.free nD) p2 p3 ⟨perm_keys B.nd pm p4 p5, by rw [p4]; exact so⟩
theorem ok_wroom {f : Addr} {fd : FuncData} {k : Nat} (F : Fun K "whole_room" "Book.whole_room" s_scWRoom f fd) (c : BCls K C) : FnOk P w K mg base CX0 (k + 1) f fd ["self"] (spWRoom C) := by
  refine F.ok scWRoom (fun vs H Q E h => ?_) (fun cdv A outer s H vs Q E hr h => ?_)
  · obtain ⟨a, dx, m, d, lv, rfl, _⟩ := h
    rfl
  · obtain ⟨a, dx, m, d, lv, rfl, o, q⟩ := h
    refine ⟨_, (pss_one (ps_ret (pe_fld (pv 0) (by rfl)))), ?_⟩
    exact ⟨_, rfl, a, C, dx, _, .ref m, rfl, o, c.cls, c.room, rfl, q⟩
end
end My
namespace My
open PySem PySem.Spec PyProof.Rows L2
abbrev rwL : PySem.W.OpenLaw := PySem.Challenge.rw_clusterhall_k51_spare_houses
abbrev hxV : Program := PySem.W.view (PySem.W.OpenLaw.row rwL).prog [5, 10, 50]
def hxN0 : List Str := ["_wall", "nothing_of", "amount_sum", "amount_less", "amount_times", "want_of", "HallError", "Taken", "NoKey", "TooMuch", "NoHouse", "NoGang", "ENDS", "BEGINS", "turns_of", "loads_of", "first_over", "Book", "OPEN", "House", "Estate", "_law_box", "_law_take", "_law_name", "_law_amount", "_law_want", "_law_kinds", "_law_gang", "_law_house", "_law_load"]
def hxN1 : List Str := ["_law_left", "_law_often", "_law_site", "_law_goes", "_law_with", "_law_least", "_law_booked", "_law_made", "_law_behind", "_law_seen", "_law_spare"]
def hxN : List Str := hxN0 ++ hxN1
def hxA0 : List He.Fa := [.glo "_law_box", .glo "_law_take", .glo "_law_name", .glo "_law_amount", .glo "_law_kinds", .glo "_law_house", .glo "_law_want", .glo "_law_gang", .glo "_law_load", .glo "_law_left", .glo "_law_often", .glo "amount_times", .glo "nothing_of", .glo "turns_of", .glo "amount_sum", .glo "amount_less", .glo "loads_of", .glo "amount_fits", .glo "first_over", .glo "_law_booked", .glo "_law_made", .glo "_law_seen", .glo "_law_behind", .glo "want_of"]
def hxA1 : List He.Fa := [.glo "spare_houses", .glo "_law_spare", .glo "law", .free "len", .free "abs", .free "isinstance", .free "list", .free "tuple", .free "zip", .free "all", .free "str", .free "int", .free "bool", .free "max", .free "min", .free "range", .free "sum", .free "dict", .free "sorted", .free "enumerate", .free "any", .free "super", .int "ENDS" 0, .int "BEGINS" 1]
def hxA2 : List He.Fa := [.str "OPEN" "open", .glo "Taken", .glo "NoHouse", .glo "NoGang", .glo "TooMuch", .glo "HallError", .glo "NoKey", .glo "Book", .glo "House", .glo "Estate", .meth "Estate" "__init__", .meth "Estate" "is_booked", .meth "Estate" "house_of", .meth "Book" "__init__", .meth "Book" "twin_book", .meth "Estate" "twin_books", .meth "Book" "keep_entry", .meth "Book" "put_entry", .meth "Estate" "keep_books", .meth "Estate" "keep_placing", .meth "Estate" "book_gang", .meth "House" "__init__", .meth "Estate" "add_house", .meth "Estate" "set_state"]
def hxA3 : List He.Fa := [.meth "Estate" "rising_houses", .meth "Book" "whole_room", .meth "Estate" "house_rows", .meth "Estate" "placing_of", .meth "Book" "entry_of", .meth "Estate" "stretch_of", .meth "Estate" "booked_rows", .meth "Book" "load_at", .meth "Estate" "house_loads", .meth "Book" "entry_rows", .meth "Estate" "entries_in"]
def hxA : List He.Fa := hxA0 ++ hxA1 ++ hxA2 ++ hxA3
def hxF0 : List He.DefD := [dfD "_law_box" (topS 30), dfD "_law_take" (topS 31), dfD "_law_name" (topS 32), dfD "_law_amount" (topS 33), dfD "_law_kinds" (topS 35), dfD "_law_house" (topS 37), dfD "_law_want" (topS 34), dfD "_law_gang" (topS 36), dfD "_law_load" (topS 38), dfD "_law_left" (topS 39), dfD "_law_often" (topS 40), dfD "amount_times" (topS 6), dfD "nothing_of" (topS 2), dfD "turns_of" (topS 21), dfD "amount_sum" (topS 3), dfD "amount_less" (topS 4), dfD "loads_of" (topS 22), dfD "amount_fits" (topS 5), dfD "first_over" (topS 23), dfD "_law_booked" (topS 45)]
def hxF1 : List He.DefD := [dfD "_law_made" (topS 46), dfD "_law_seen" (topS 48), dfD "_law_behind" (topS 47), dfD "want_of" (topS 8), dfD "spare_houses" (topS 10), dfD "_law_spare" (topS 49), dfD "law" (topS 50), mtD "Estate" "__init__" "Estate.__init__" (methS 28 0), mtD "Estate" "is_booked" "Estate.is_booked" (methS 28 21), mtD "Estate" "house_of" "Estate.house_of" (methS 28 18), mtD "Book" "__init__" "Book.__init__" (methS 24 0), mtD "Book" "twin_book" "Book.twin_book" (methS 24 12), mtD "Estate" "twin_books" "Estate.twin_books" (methS 28 25), mtD "Book" "keep_entry" "Book.keep_entry" (methS 24 14), mtD "Book" "put_entry" "Book.put_entry" (methS 24 1), mtD "Estate" "keep_books" "Estate.keep_books" (methS 28 26), mtD "Estate" "keep_placing" "Estate.keep_placing" (methS 28 24), mtD "Estate" "book_gang" "Estate.book_gang" (methS 28 4), mtD "House" "__init__" "House.__init__" (methS 27 0), mtD "Estate" "add_house" "Estate.add_house" (methS 28 1)]
def hxF2 : List He.DefD := [mtD "Estate" "set_state" "Estate.set_state" (methS 28 2), mtD "Estate" "rising_houses" "Estate.rising_houses" (methS 28 19), mtD "Book" "whole_room" "Book.whole_room" (methS 24 11), mtD "Estate" "house_rows" "Estate.house_rows" (methS 28 12), mtD "Estate" "placing_of" "Estate.placing_of" (methS 28 22), mtD "Book" "entry_of" "Book.entry_of" (methS 24 13), mtD "Estate" "stretch_of" "Estate.stretch_of" (methS 28 23), mtD "Estate" "booked_rows" "Estate.booked_rows" (methS 28 11), mtD "Book" "load_at" "Book.load_at" (methS 24 6), mtD "Estate" "house_loads" "Estate.house_loads" (methS 28 13), mtD "Book" "entry_rows" "Book.entry_rows" (methS 24 8), mtD "Estate" "entries_in" "Estate.entries_in" (methS 28 14)]
def hxF : List He.DefD := hxF0 ++ hxF1 ++ hxF2
def hxS0 : List Addr := [PySem.cStatics, 3, 6, 4, 21, 28, 33, 38, 45, 50, 57, 62, 72, 85, 97, 118, 130, 142, 149, 154, 161, 279, 307, 500, 511, 518, 523, 528, 533, 538, 545, 550, 555, 560, 565, 572, 577, 584, 589, 594, 601, 606, 613, 618, 623, 0, 20, 27, 32, 37, 44, 49, 56, 61, 71, 84, 96, 117, 129, 141]
def hxS1 : List Addr := [148, 153, 160, 278, 306, 499, 510, 517, 522, 527, 532, 537, 544, 549, 554, 559, 564, 571, 576, 583, 588, 593, 600, 605, 612, 617, 622, 15, 16, 17, 18, 19, 22, 23, 24, 25, 26, 29, 30, 31, 34, 35, 36, 39, 40, 41, 42, 43, 46, 47, 48, 51, 52, 53, 54, 55, 58, 59, 60, 70]
def hxS2 : List Addr := [73, 83, 95, 115, 116, 128, 140, 145, 146, 147, 150, 151, 152, 155, 156, 157, 158, 159, 175, 182, 189, 196, 203, 210, 217, 224, 229, 236, 243, 250, 257, 264, 269, 276, 277, 280, 281, 297, 304, 305, 308, 309, 325, 332, 339, 346, 351, 358, 365, 372, 379, 386, 393, 400, 405, 410, 417, 424, 431, 438]
def hxS3 : List Addr := [445, 450, 457, 464, 471, 478, 485, 490, 497, 498, 501, 502, 505, 506, 507, 508, 509, 512, 513, 514, 515, 516, 519, 520, 521, 524, 525, 526, 529, 530, 531, 534, 535, 536, 539, 540, 541, 542, 543, 546, 547, 548, 551, 552, 553, 556, 557, 558, 561, 562, 563, 566, 567, 568, 569, 570, 573, 574, 575, 578]
def hxS4 : List Addr := [579, 580, 581, 582, 585, 586, 587, 590, 591, 592, 595, 596, 597, 598, 599, 602, 603, 604, 607, 608, 609, 610, 611, 614, 615, 616, 619, 620, 621, 114, 103, 174, 181, 188, 195, 202, 209, 216, 223, 228, 235, 242, 249, 256, 263, 268, 275, 296, 303, 324, 331, 338, 345, 350, 357, 364, 371, 378, 385, 392]
def hxS5 : List Addr := [399, 404, 409, 416, 423, 430, 437, 444, 449, 456, 463, 470, 477, 484, 489, 496]
def hxS : List Addr := hxS0 ++ hxS1 ++ hxS2 ++ hxS3 ++ hxS4 ++ hxS5
def hxT : List He.Defn := [("amount_fits", Option.none), ("spare_houses", Option.none)]
def hxE (K : PySem.W.Frag) : Bool := hxRefs K [(He.ga K "Taken"), (He.ga K "NoHouse"), (He.ga K "NoGang"), (He.ga K "TooMuch"), (He.ga K "HallError")] && (excPB K (He.ga K "Taken") && (excPB K (He.ga K "NoHouse") && (excPB K (He.ga K "NoGang") && (excPB K (He.ga K "NoKey") && (decide (PySem.W.kitOne K (.type "NoneType") (.ref (He.ga K "NoHouse")) = some false) && (inB "TooMuch" "TooMuch.__init__" "time" rwL.prog.main.file K && (bookB K (He.ga K "Book") && (hxCls K (He.ga K "House") ["yard", "kind", "state", "book"] && (hxCls K (He.ga K "Estate") ["houses", "placings"])))))))))
abbrev hxH : PySem.W.Hook := hookM hxS hxA hxF hxT hxE InV (inObs "TooMuch") (inVal "TooMuch.__init__" (methS 15 0))
def hxO (s : PySem.W.SharedT) : He.AlX × InV := obM hxS hxA hxF hxT hxE InV (inObs "TooMuch") s
set_option maxHeartbeats 0 in
theorem hxRun (w : World) : HandSHeadRun.RunEq (PySem.W.OpenLaw.row rwL) hxV hxH hxO 20000 hxN w := by
  intro os
  kernel_rfl
end My
set_option maxHeartbeats 4000000
namespace My
open PySem PySem.Spec PyProof.Rows L2 GX GxR
abbrev s_scAmt : Stmt := topS 33
abbrev n_scAmt : List Str := ["_law_box_here", "_law_wares", "_law_size", "_law_k"]
theorem scAmt : FnScope n_scAmt ["_law_box_here", "_law_wares"] (defScope s_scAmt) := ⟨rfl, rfl, rfl, by decide +kernel, rfl, by decide +kernel, by decide +kernel⟩
def spWAmt : Sp := fun vs H Q _ => ∃ (b : Addr) (c : Int) (W : Nat), vs = [.ref b, .int (W : Int)] ∧ BoxAt H b c ∧ c ≤ 1000000 ∧ 1 ≤ W ∧ W ≤ 8 ∧
  ∀ (t : Addr) (ns : List Int) (H' : Hp), Kp [b] H H' → BoxAt H' b (c + 10) → H t = none → H' t = some (.tup (ns.map V.int)) → ns.length = W → (∀ n ∈ ns, 0 ≤ n ∧ n ≤ 1000000000000) → Q (.ref t) H'
section
variable {P : Program} {w : World} {K : PySem.W.Frag} {mg : Str → Option Value} {base : Heap}
theorem ok_wamt {f fT : Addr} {fd fdT : FuncData} {k : Nat} (F : Fun K "_law_amount" "_law_amount" s_scAmt f fd) (X : Txt mg)
    (GT : FnOk P w K mg base CX0 k fT fdT ["_law_box_here", "_law_many"] spTakeW) (mT : mg "_law_take" = some (.ref fT)) (kT : PySem.W.keepIn K (.ref fT) = true) (bT : L2.Binds K fdT ["_law_box_here", "_law_many"] []) :
    FnOk P w K mg base CX0 (k + 1) f fd ["_law_box_here", "_law_wares"] spWAmt := by
  refine F.ok scAmt (fun vs H Q E h => ?_) (fun cdv A outer s H vs Q E hr h => ?_)
  · obtain ⟨b, c, W, rfl, _⟩ := h
    rfl
  · obtain ⟨b, c, W, rfl, B, hc, w1, w8, q⟩ := h
    refine ⟨_, (pss_cons (ps_set (i := 2) scAmt.nd rfl (.inr rfl) (pe_ix ix_list (pe_lst (pa_cons pe_int (pa_cons pe_int (pa_cons pe_int (pa_cons pe_int (pa_cons (pe_op op_pow pe_int pe_int) pa_nil)))))) (pe_call GT hr (by rfl) mT kT bT .nil pass0 (pa_cons (pv 0) (pa_cons pe_int pa_nil))) (fun _ _ => rfl)))
(pss_one (ps_ret (pe_callTy call_tuple_of (by rfl) X.tup bt_tuple (pa_cons (pe_lc (own := [("_law_k", 3)]) (g := (gName 3)) (tt := tYes) rfl scAmt.nd (pi_range1 (by rfl) X.range (pa_cons (pv 1) pa_nil)) (blkOk_by (own := [("_law_k", 3)]) (N := n_scAmt) (sc := defScope s_scAmt) (by decide +kernel)) (fun _ _ _ _ _ => (pg_name (i := 3) scAmt.nd rfl (.inl rfl))) (fun _ _ _ _ _ => pts_nil) (fun _ _ _ _ _ => (pe_call GT hr (by rfl) mT kT bT .nil pass0 (pa_cons (pv 0) (pa_cons (pe_op op_add (pv 2) pe_int) pa_nil))))) pa_nil))))), ?_⟩
    refine ⟨10, 12, rfl, rfl, ⟨by decide, by decide, by decide⟩, by show 5 ≤ sizeLine; decide, fun l nl => ?_⟩
    have s1 := same_upd (o := .lst [V.int 3, .int 9, .int 9, .int 100, .int (10 ^ 12)]) nl
    have e1 : upd H l (.lst [V.int 3, .int 9, .int 9, .int 100, .int (10 ^ 12)]) l = some (.lst [V.int 3, .int 9, .int 9, .int 100, .int (10 ^ 12)]) := upd_same
    have lb := nb_of B nl
    have B1 := B.same s1
    have k1 : Kp [b] H (upd H l (.lst [V.int 3, .int 9, .int 9, .int 100, .int (10 ^ 12)])) := Same.kp _ s1
    refine ⟨_, rfl, b, _, 5, rfl, B1, by decide, by decide, by omega, fun r1 H2 a1 b1 k2 B2 => ?_⟩
    have e2 := k2 _ _ (fun z => lb (List.mem_singleton.mp z)) e1
    have k12 := k1.trans k2
    clear k1 k2 B1 s1 e1
    obtain ⟨sz, hsz, z0, z1⟩ : ∃ sz : Int, atI [V.int 3, .int 9, .int 9, .int 100, .int (10 ^ 12)] r1 = some (.int sz) ∧ 0 ≤ sz ∧ sz ≤ 1000000000000 := by
      have : r1 = 0 ∨ r1 = 1 ∨ r1 = 2 ∨ r1 = 3 ∨ r1 = 4 := by omega
      rcases this with rfl | rfl | rfl | rfl | rfl
      · exact ⟨3, rfl, by decide, by decide⟩
      · exact ⟨9, rfl, by decide, by decide⟩
      · exact ⟨9, rfl, by decide, by decide⟩
      · exact ⟨100, rfl, by decide, by decide⟩
      · exact ⟨10 ^ 12, rfl, by decide, by decide⟩
    refine ⟨l, _, _, .int sz, rfl, rfl, SqL.of e2, hsz, ?_⟩
    refine ⟨_, rfl, (W : Int), rfl, by omega, by omega, fun D nD => ?_⟩
    rw [Int.toNat_natCast]
    have Db : D ≠ b := nb_of B2 nD
    have Db' : D ∉ [b] := fun z => Db (List.mem_singleton.mp z)
    refine lc_range (lo := 0) (n := W) (fun i H' => Kp [b] H2 H' ∧ BoxAt H' b (c + 1 + (i : Int)) ∧ ∃ ns : List Int, H' D = some (.lst (ns.map V.int)) ∧ ns.length = i ∧ ∀ n ∈ ns, 0 ≤ n ∧ n ≤ 1000000000000)
      ⟨Same.kp _ (same_upd nD), (B2.same (same_upd nD)).le (by omega), [], upd_same, rfl, fun _ h => nomatch h⟩ (fun i H1 hi p => ?_) (fun H1 p => ?_)
    · obtain ⟨p1, p2, ns, p3, p4, p5⟩ := p
      refine ⟨rfl, ?_⟩
      refine ⟨_, rfl, _, rfl, sz, 1, rfl, rfl, b, _, sz + 1, rfl, p2, by omega, by omega, by omega, fun r H3 a b' k3 B3 => ?_⟩
      have e3 := k3 _ _ Db' p3
      refine ⟨_, e3, by rw [List.length_map, p4]; exact small63 (by omega), kp_put (p1.trans k3) nD, ?_, ns ++ [r], by rw [upd_same, List.map_append]; rfl, by rw [List.length_append, p4]; rfl, fun x hx => ?_⟩
      · obtain ⟨xs, h1, h2⟩ := B3.le (c' := c + 1 + ((i + 1 : Nat) : Int)) (by omega)
        exact ⟨xs, by rw [upd_ne Db.symm]; exact h1, h2⟩
      · rcases List.mem_append.mp hx with hx | hx
        · exact p5 x hx
        · rw [List.mem_singleton.mp hx]
          omega
    · obtain ⟨p1, p2, ns, p3, p4, p5⟩ := p
      refine ⟨D, _, rfl, .inl ⟨SqL.of p3, fun t nt => ?_⟩⟩
      have kk := k12.trans p1
      refine q t ns _ (kp_new kk nt) ((p2.same (same_upd nt)).le (by omega)) ?_ upd_same p4 p5
      exact box_free p2 kk nt
end
end My
set_option maxHeartbeats 4000000
/-! set(xs), xs a list of whole numbers: goes as the library's set of a tuple of such goes, over a list's iterator -/
set_option maxHeartbeats 4000000
/-! set(list of texts), sorted of a set of texts told in order, tuple(list) as a tuple that is known to have no dict, dict(such a tuple of pairs) -/
namespace SX
open PySem PySem.W PySem.Spec PyProof.Rows L2
section
variable {X : Cx}
/-- a tuple that is known to have no dict -/
def FzT (H : Hp) (a : Addr) (xs : List V) : Prop := ∃ o : Obj, H a = some (.frz o (.tup xs)) ∧ o.cls = .type "tuple" ∧ o.dict = none
theorem FzT.of {H H' : Hp} {a : Addr} {xs : List V} (k : ∀ o, H a = some o → H' a = some o) (h : FzT H a xs) : FzT H' a xs := by
  obtain ⟨o, e, r⟩ := h
  exact ⟨o, k _ e, r⟩
/-- tuple(xs) of a list -/
def rTupF (K : PySem.W.Frag) : List V → Hp → VK → Prop := fun xs H Q => ∃ p ys, xs = [.ref p] ∧ SqL K H p ys ∧ ∀ (l : Addr) (o : Obj), H l = none → o.cls = .type "tuple" → o.dict = none → Q (.ref l) (upd H l (.frz o (.tup ys)))
theorem cr_tupF : CallR X (.type "tuple") (rTupF X.K) := by
  intro pins s σ H xs us Q I r h
  obtain ⟨p, ys, rfl, hq, q⟩ := h
  obtain ⟨u, rfl, rx⟩ := vals1 r
  cases rx
  obtain ⟨its, r', pl, hz⟩ := I.list hq
  have hlen := r'.length
  refine call_tuple_list pl.isList (fun h' kp => ?_) (by simp only [List.size_toArray] <;> omega)
  have I1 : Inv X pins σ H { s with heap := h' } := I.kept (t' := s.toks) kp
  have I2 : Inv X pins σ (upd H h'.objs.size (.frz { cls := .type "tuple", data := .seq its.toArray } (.tup ys))) { s with heap := h'.push { cls := .type "tuple", data := .seq its.toArray } } :=
    I1.laid (t' := s.toks) (fun b o e => Heap.get?_push_of_some _ e) (Nat.le_refl _) (show ObjOk X.prog X.w _ _ _ (.frz _ (.tup ys)) from ⟨Heap.get?_push_size _ rfl, hz, its, r', IsTup.new _ _⟩)
  exact ⟨.ref h'.objs.size, _, I2, rfl, q _ _ (I1.hok.fresh (Nat.le_refl _)) rfl rfl⟩
end
end SX
set_option maxHeartbeats 1000000
/-! the mathematics of placing -/
namespace My
open PySem PySem.W PySem.Spec PyProof.Rows L2 GX GxR
theorem risingP : ∀ (l : List Str) (p : Str), risingS p l = true → (p :: l).Pairwise (fun a b => a.cps.toList ≤ b.cps.toList)
  | [], p, _ => List.pairwise_singleton _ _
  | x :: r, p, h => by
    have h' : (!ltCps x.cps.toList p.cps.toList && risingS x r) = true := h
    rw [Bool.and_eq_true] at h'
    have ih := risingP r x h'.2
    have px : p.cps.toList ≤ x.cps.toList := by
      have := h'.1
      rw [ltCps_eq] at this
      refine List.not_lt.mp fun z => ?_
      rw [decide_eq_true z] at this
      cases this
    refine List.pairwise_cons.mpr ⟨fun y hy => ?_, ih⟩
    rcases List.mem_cons.mp hy with z | z
    · rw [z]
      exact px
    · exact List.le_trans px ((List.pairwise_cons.mp ih).1 y z)
theorem sortedP {l : List Str} (h : sortedS l = true) : l.Pairwise (fun a b => a.cps.toList ≤ b.cps.toList) := by
  cases l with
  | nil => exact .nil
  | cons x r => exact risingP r x h
theorem ofP {l : List Str} (h : l.Pairwise (fun a b => a.cps.toList ≤ b.cps.toList)) : sortedS l = true := by
  refine SX.sorted_of (h.imp fun {a b} z => ?_)
  rw [ltCps_eq]
  exact decide_eq_false (List.not_lt.mpr z)
theorem strxP {a b : Str} (h : a.cps.toList = b.cps.toList) : a = b := by
  cases a
  cases b
  simp only at h
  rw [Array.toList_inj.mp h]
/-- the texts of L, each once, in order -/
structure YsOf (L ys : List Str) : Prop where
  nd : ys.Nodup
  so : sortedS ys = true
  mem : ∀ y, y ∈ ys ↔ y ∈ L
theorem YsOf.uniq {L L' ys ys' : List Str} (h : YsOf L ys) (h' : YsOf L' ys') (e : ∀ y, y ∈ L ↔ y ∈ L') : ys = ys' := by
  have p : ys.Perm ys' := (List.perm_ext_iff_of_nodup h.nd h'.nd).mpr fun y => by rw [h.mem, h'.mem, e]
  have so : ∀ {zs : List Str}, sortedS zs = true → zs.Pairwise (fun a b => (fun a b : Str => decide (a.cps.toList ≤ b.cps.toList)) a b = true) := fun {zs} hs => (sortedP hs).imp fun z => decide_eq_true z
  exact uniq_sorted (le := fun a b : Str => decide (a.cps.toList ≤ b.cps.toList)) p (so h.so) (so h'.so) fun a ha b hb q1 q2 => strxP (List.le_antisymm (of_decide_eq_true q1) (of_decide_eq_true q2))
theorem YsOf.filter {L L' ys : List Str} (p : Str → Bool) (h : YsOf L ys) (e : ∀ y, y ∈ L' ↔ y ∈ L ∧ p y = true) : YsOf L' (ys.filter p) :=
  ⟨h.nd.filter p, ofP ((sortedP h.so).filter p), fun y => by rw [List.mem_filter, h.mem, e]⟩
/-! the law's own -/
end My
set_option maxHeartbeats 2000000
namespace GW
open PySem PySem.Spec PyProof.Rows L2 GxR GenW
/-! a generator expression whose element may call defs and lay new things -/
/-- the frame of a generator expression -/
abbrev gxEnv (X : Cx) (scope : Scope) (C : Addr) (code : Value) : Env := genEnv scope (cloFrom X.env.cells scope.names []) C code builtinsNs X.env
/-- its context: fp are the walked iterator's own objects, pn what stands -/
def gx (X : Cx) (N : List Str) (scope : Scope) (C : Addr) (code : Value) (A : Around) (s : Shared) (H : Hp) (fp : List Addr) (pn : List (Addr × Obj)) : Cx :=
  { prog := X.prog, w := X.w, K := X.K, mg := X.mg, base := X.base, A := A.deeper (gxEnv X scope C code), N := N, s_0 := s, H_0 := H, env := gxEnv X scope C code, outer := X.stack, stack := gxEnv X scope C code :: X.stack,
    ex := fp, fn := fun _ => false, calm := true, pn := pn, xe := fun _ _ => False }
theorem over_gx {A : Around} {elt : Expr} {gs : List Comprehension} {scope : Scope} {pos : Pos} {it acc : Value} {env : Env} : A.over (.compLoop (.GeneratorExp elt gs scope pos) 0 it acc env) [] = A.deeper env := by
  first
    | rfl
    | (obtain ⟨hd, d, fr, gs, u⟩ := A; simp [Around.over, Around.deeper, marksOver, frameCount, unitsOf, envsOf, guardsOf, pushEnvs, pushGuards, Code.envs, Code.env?, Code.isFrame, Code.guards, Code.isGuard, Code.weight, Code.frames, Code.isCreation, Code.isCaller, Code.cUnits])
section
variable {X Y : Cx} {N : List Str} {scope : Scope} {it : Addr} {A : Around} {fp : List Addr} {tg iter elt : Expr} {gpos : Pos} {J : It} {tn : Nat → Heap → Prop} {g : TG} {te : TE} {vs : List Nat} {σ' : L2.St} {cont : List V → Hp → Prop} {S : Addr} {W : Nat → Nat → List V → Hp → Prop}
theorem seg_begin (hd : Y.A.handled = none) (hA : A.deeper Y.env = Y.A) (T : Turn Y.prog Y.w Y.K tg J fp it tn) {R : GenEnd} {Yp : Protocol} {n : Nat} {s₀ s : Shared} (hst : tn 0 s.heap)
    (loop : Seg (model Y.prog Y.w) A R Yp n s₀ (.compLoop (.GeneratorExp elt [⟨tg, iter, [], 0⟩] scope gpos) 0 (.ref it) .none Y.env) ((model Y.prog Y.w).den (.compLoop (.GeneratorExp elt [⟨tg, iter, [], 0⟩] scope gpos) 0 (.ref it) .none Y.env)) [] s) :
    Seg (model Y.prog Y.w) A R Yp n s₀ (.compStart (.GeneratorExp elt [⟨tg, iter, [], 0⟩] scope gpos) 0 (.ref it) .none Y.env) ((model Y.prog Y.w).den (.compStart (.GeneratorExp elt [⟨tg, iter, [], 0⟩] scope gpos) 0 (.ref it) .none Y.env)) [] s := by
  show Seg _ A _ _ _ s₀ _ ((compStart (.GeneratorExp elt [⟨tg, iter, [], 0⟩] scope gpos) 0 (.ref it) .none Y.env).onRaise (leaving Y.env)) [] s
  unfold compStart
  rw [Sem.onRaise_eq_wrap]
  show Seg _ A _ _ _ s₀ _ ((ask >>= _).wrap _ _ _ _) [] s
  refine seg_bind_wrap (wpAny_askSetting ?_)
  split
  · exact seg_again rfl loop
  · first
      | exact seg_bind_wrap (wpAny_rule (seg_bind_wrap (wpAny_standAt (seg_bind_wrap (T.self _ 0 s _ _ hst (seg_again rfl loop))))))
      | (refine seg_bind_wrap (wpAny_rule ?_); show Seg _ A _ _ _ s₀ _ ((standAt iter.pos >>= _).wrap _ _ _ _) [] s; exact seg_bind_wrap (wpAny_standAt (seg_bind_wrap (T.self _ 0 s _ _ hst (seg_again rfl loop)))))
end
/-- what the scope of a generator expression is, within a def of the scope sc -/
structure GxV (sc scope : Scope) : Prop where
  kind : scope.kind = .function
  co : scope.isCoroutine = false
  cell : ∀ y ∈ scope.names, y.2 ≠ .cell
  dot : scope.names.lookup (".0" : Str) = some NameKind.local
  free : ∀ y ∈ scope.names, y.2 = .free → sc.names.lookup y.1 = some .cell ∨ sc.names.lookup y.1 = some .free
theorem clo_of {cells : List (Str × Addr)} {names : List (Str × NameKind)} {x : Str} {c : Addr} (hf : ∀ y ∈ names, y.2 = .free → ∃ c, cells.lookup y.1 = some c) (h : (cloFrom cells names []).lookup x = some c) : cells.lookup x = some c := by
  rcases cloFrom_mem (PySem.mem_of_lookup h) with z | ⟨z, e⟩
  · cases z
  · obtain ⟨c', e'⟩ := hf _ z rfl
    have e' : cells.lookup x = some c' := e'
    rw [e'] at e
    rw [e', e]
    rfl
theorem clo_to {cells : List (Str × Addr)} {names : List (Str × NameKind)} {x : Str} (h : names.lookup x = some .free) : ∃ c, (cloFrom cells names []).lookup x = some c :=
  mem_lookup (cloFrom_has (PySem.mem_of_lookup h))
end GW
set_option maxHeartbeats 2000000
set_option maxHeartbeats 1000000
namespace My
open PySem PySem.Spec PyProof.Rows L2 GX GxR
/-- pairs of a text and a number -/
inductive PairVs (H : Hp) : List V → List (Str × Int) → Prop
  | nil : PairVs H [] []
  | cons {t : Addr} {z : Str} {n : Int} {vs : List V} {ps : List (Str × Int)} : H t = some (.tup [.str z, .int n]) → PairVs H vs ps → PairVs H (.ref t :: vs) ((z, n) :: ps)
theorem PairVs.same {H H' : Hp} (s : Same H H') : ∀ {vs : List V} {ps : List (Str × Int)}, PairVs H vs ps → PairVs H' vs ps
  | _, _, .nil => .nil
  | _, _, .cons h r => .cons (s _ _ h) (r.same s)
theorem PairVs.len {H : Hp} : ∀ {vs : List V} {ps : List (Str × Int)}, PairVs H vs ps → vs.length = ps.length
  | _, _, .nil => rfl
  | _, _, .cons _ r => congrArg Nat.succ r.len
theorem PairVs.get {H : Hp} : ∀ {vs : List V} {ps : List (Str × Int)}, PairVs H vs ps → ∀ (i : Nat) (v : V), vs[i]? = some v → ∃ t z n, v = .ref t ∧ H t = some (.tup [.str z, .int n])
  | _, _, .nil, _, _, h => by simp at h
  | _, _, .cons (t := t) (z := z) (n := n) h r, 0, v, e => by
    cases e
    exact ⟨t, z, n, rfl, h⟩
  | _, _, .cons h r, i + 1, v, e => r.get i v (by simpa using e)
theorem PairVs.put {H : Hp} {D : Addr} {xs ys : List V} (e : H D = some (.lst xs)) : ∀ {vs : List V} {ps : List (Str × Int)}, PairVs H vs ps → PairVs (upd H D (.lst ys)) vs ps
  | _, _, .nil => .nil
  | _, _, .cons (t := t) h r => .cons (by
      have ne : t ≠ D := fun z => by
        rw [z, e] at h
        cases h
      rw [upd_ne ne]
      exact h) (r.put e)
theorem PairVs.kt {H H' : Hp} (k : KTu H H') : ∀ {vs : List V} {ps : List (Str × Int)}, PairVs H vs ps → PairVs H' vs ps
  | _, _, .nil => .nil
  | _, _, .cons h r => .cons (k _ _ h) (r.kt k)
theorem PairVs.snoc {H : Hp} {t : Addr} {z : Str} {n : Int} (e : H t = some (.tup [.str z, .int n])) : ∀ {vs : List V} {ps : List (Str × Int)}, PairVs H vs ps → PairVs H (vs ++ [.ref t]) (ps ++ [(z, n)])
  | _, _, .nil => .cons e .nil
  | _, _, .cons h r => .cons h (r.snoc e)
/-- a value is a pair -/
def PairV (H : Hp) (v : V) (q : Str × Int) : Prop := ∃ t, v = .ref t ∧ H t = some (.tup [.str q.1, .int q.2])
theorem PairVs.zipped {H : Hp} : ∀ {vs : List V} {ps : List (Str × Int)}, PairVs H vs ps → ∃ qs : List (V × (Str × Int)), qs.map (·.1) = vs ∧ qs.map (·.2) = ps ∧ ∀ q ∈ qs, PairV H q.1 q.2
  | _, _, .nil => ⟨[], rfl, rfl, fun _ h => nomatch h⟩
  | _, _, .cons (t := t) (z := z) (n := n) h r => by
    obtain ⟨qs, e1, e2, e3⟩ := r.zipped
    refine ⟨(.ref t, (z, n)) :: qs, by rw [List.map_cons, e1], by rw [List.map_cons, e2], fun q hq => ?_⟩
    rcases List.mem_cons.mp hq with y | y
    · rw [y]; exact ⟨t, rfl, h⟩
    · exact e3 q y
theorem PairVs.of {H : Hp} : ∀ {qs : List (V × (Str × Int))}, (∀ q ∈ qs, PairV H q.1 q.2) → PairVs H (qs.map (·.1)) (qs.map (·.2))
  | [], _ => .nil
  | q :: qs, h => by
    obtain ⟨t, e1, e2⟩ := h q List.mem_cons_self
    show PairVs H (q.1 :: qs.map (·.1)) (q.2 :: qs.map (·.2))
    rw [e1]
    exact .cons e2 (PairVs.of fun x hx => h x (List.mem_cons_of_mem _ hx))
theorem PairVs.at {H : Hp} : ∀ {vs : List V} {ps : List (Str × Int)}, PairVs H vs ps → ∀ (i : Nat) (q : Str × Int), ps[i]? = some q → ∃ t, vs[i]? = some (.ref t) ∧ H t = some (.tup [.str q.1, .int q.2])
  | _, _, .nil, _, _, h => by simp at h
  | _, _, .cons (t := t) h r, 0, q, e => by
    cases e
    exact ⟨t, rfl, h⟩
  | _, _, .cons h r, i + 1, q, e => r.at i q (by simpa using e)
def prD (p : Str × Int) : PyData := .tuple [.str p.1, .int p.2]
theorem PairVs.dp {K : PySem.W.Frag} {H : Hp} : ∀ {vs : List V} {ps : List (Str × Int)}, PairVs H vs ps → DpAll K H vs (ps.map prD)
  | _, _, .nil => .nil
  | _, _, .cons h r => .cons (.tup (SqT.of h) (.cons (.str _) (.cons (.int _) .nil))) r.dp
theorem prs_lay : ∀ {ps : List (Str × Int)}, (∀ p ∈ ps, PySem.PyData.strOk p.1 = true) → PyData.canLayAll0 (ps.map prD) = true
  | [], _ => rfl
  | p :: ps, h => by
    show (PyData.canLay0 (prD p) && PyData.canLayAll0 (ps.map prD)) = true
    rw [prs_lay (fun q hq => h q (List.mem_cons_of_mem _ hq))]
    have e : PyData.canLay0 (prD p) = (PySem.PyData.strOk p.1 && true) := by
      simp [prD, PyData.canLay0, PyData.canLayAll0]
    rw [e, h p List.mem_cons_self]
    rfl
theorem prs_deep : ∀ ps : List (Str × Int), PyData.depthAll (ps.map prD) ≤ 1
  | [] => by simp [PyData.depthAll]
  | p :: ps => by
    have h := prs_deep ps
    have e : PyData.depth (prD p) = 1 := by simp [prD, PyData.depth, PyData.depthAll]
    show max (PyData.depth (prD p)) (PyData.depthAll (ps.map prD)) ≤ 1
    rw [e]
    omega
def PairsAt (H : Hp) (p : Addr) (ps : List (Str × Int)) : Prop := ∃ vs, Rd H p (.tup vs) ∧ PairVs H vs ps
/-- a tuple of pairs that is known to have no dict -/
def PairsF (H : Hp) (p : Addr) (ps : List (Str × Int)) : Prop := ∃ vs, SX.FzT H p vs ∧ PairVs H vs ps
theorem PairsF.at {H : Hp} {p : Addr} {ps : List (Str × Int)} (h : PairsF H p ps) : PairsAt H p ps := by
  obtain ⟨vs, ⟨o, e, _⟩, h⟩ := h
  exact ⟨vs, .inr ⟨o, e⟩, h⟩
theorem PairsAt.fw {H H' : Hp} {p : Addr} {ps : List (Str × Int)} {Ts : List Addr} (t : Tabs Ts H) (f : Fw Ts H H') (h : PairsAt H p ps) : PairsAt H' p ps := by
  obtain ⟨vs, h1, h2⟩ := h
  refine ⟨vs, ?_, h2.kt (f.kt t)⟩
  rcases h1 with h1 | ⟨o, h1⟩
  · exact .inl (f.kt t _ _ h1)
  · exact .inr ⟨o, f.obj t h1 fun ps z => by cases z⟩
theorem PairsF.fw {H H' : Hp} {p : Addr} {ps : List (Str × Int)} {Ts : List Addr} (t : Tabs Ts H) (f : Fw Ts H H') (h : PairsF H p ps) : PairsF H' p ps := by
  obtain ⟨vs, ⟨o, h1, r⟩, h2⟩ := h
  exact ⟨vs, ⟨o, f.obj t h1 fun ps z => (by cases z), r⟩, h2.kt (f.kt t)⟩
theorem PairsAt.same {H H' : Hp} {p : Addr} {ps : List (Str × Int)} (s : Same H H') (h : PairsAt H p ps) : PairsAt H' p ps := by
  obtain ⟨vs, h1, h2⟩ := h
  refine ⟨vs, ?_, h2.same s⟩
  rcases h1 with h1 | ⟨o, h1⟩
  · exact .inl (s _ _ h1)
  · exact .inr ⟨o, s _ _ h1⟩
theorem PairsF.same {H H' : Hp} {p : Addr} {ps : List (Str × Int)} (s : Same H H') (h : PairsF H p ps) : PairsF H' p ps := by
  obtain ⟨vs, ⟨o, h1, r⟩, h2⟩ := h
  exact ⟨vs, ⟨o, s _ _ h1, r⟩, h2.same s⟩
end My
set_option maxHeartbeats 1000000
/-! a site in the heap: houses, each with what is left -/
namespace My
open PySem PySem.Spec PyProof.Rows L2 GX GxR
structure House where
  name : Str
  yard : Str
  left : List Int
def HouseAt (H : Hp) (v : V) (r : House) : Prop := ∃ t l : Addr, v = .ref t ∧ H t = some (.tup [.str r.name, .str r.yard, .ref l]) ∧ H l = some (.tup (r.left.map V.int))
theorem HouseAt.same {H H' : Hp} {v : V} {r : House} (s : Same H H') (h : HouseAt H v r) : HouseAt H' v r := by
  obtain ⟨t, l, e, h1, h2⟩ := h
  exact ⟨t, l, e, s _ _ h1, s _ _ h2⟩
theorem HouseAt.kp {H H' : Hp} {v : V} {r : House} {b : Addr} {c : Int} (B : BoxAt H b c) (s : Kp [b] H H') (h : HouseAt H v r) : HouseAt H' v r := by
  obtain ⟨xs, hb, _⟩ := B
  have ne : ∀ {x : Addr} {ys : List V}, H x = some (.tup ys) → x ∉ [b] := fun {x ys} e z => by
    rw [List.mem_singleton.mp z, hb] at e
    cases e
  obtain ⟨t, l, e, h1, h2⟩ := h
  exact ⟨t, l, e, s _ _ (ne h1) h1, s _ _ (ne h2) h2⟩
theorem HouseAt.put {H : Hp} {v : V} {r : House} {p : Addr} {xs ys : List V} (e : H p = some (.lst xs)) (h : HouseAt H v r) : HouseAt (upd H p (.lst ys)) v r := by
  obtain ⟨t, l, z, h1, h2⟩ := h
  have ne : ∀ {x : Addr} {ys : List V}, H x = some (.tup ys) → x ≠ p := fun {x ys} e' z => by
    rw [z, e] at e'
    cases e'
  exact ⟨t, l, z, by rw [upd_ne (ne h1)]; exact h1, by rw [upd_ne (ne h2)]; exact h2⟩
inductive Houses (H : Hp) : List V → List House → Prop
  | nil : Houses H [] []
  | snoc {vs : List V} {rs : List House} {v : V} {r : House} : Houses H vs rs → HouseAt H v r → Houses H (vs ++ [v]) (rs ++ [r])
theorem Houses.imp {H H' : Hp} (k : ∀ v r, HouseAt H v r → HouseAt H' v r) : ∀ {vs : List V} {rs : List House}, Houses H vs rs → Houses H' vs rs
  | _, _, .nil => .nil
  | _, _, .snoc h x => .snoc (h.imp k) (k _ _ x)
theorem Houses.len {H : Hp} : ∀ {vs : List V} {rs : List House}, Houses H vs rs → vs.length = rs.length
  | _, _, .nil => rfl
  | _, _, .snoc h _ => by rw [List.length_append, List.length_append, h.len]; rfl
end My
set_option maxHeartbeats 2000000
/-! sorted of a set of pairs of whole numbers, of any sign -/
namespace ST
open PySem PySem.Spec PyProof.Rows L2 PpSet PySem.W
/-- what is a permutation of an image is an image of a permutation -/
theorem perm_image {α β : Type} {f : α → β} {xs zs : List β} (h : xs.Perm zs) : ∀ ys : List α, zs = ys.map f → ∃ ws : List α, ws.Perm ys ∧ xs = ws.map f := by
  induction h with
  | nil =>
    intro ys e
    cases ys with
    | nil => exact ⟨[], .nil, rfl⟩
    | cons y ys => cases e
  | cons x h ih =>
    intro ys e
    cases ys with
    | nil => cases e
    | cons y ys =>
      injection e with e1 e2
      obtain ⟨ws, p, r⟩ := ih ys e2
      exact ⟨y :: ws, p.cons y, by rw [List.map_cons, ← e1, ← r]⟩
  | swap x y l =>
    intro ys e
    match ys, e with
    | a :: b :: ys, e =>
      injection e with e1 e2
      injection e2 with e2 e3
      exact ⟨b :: a :: ys, .swap a b ys, by rw [List.map_cons, List.map_cons, ← e1, ← e2, ← e3]⟩
  | trans h1 h2 ih1 ih2 =>
    intro ys e
    obtain ⟨ws, p, r⟩ := ih2 ys e
    obtain ⟨vs, p', r'⟩ := ih1 ws r
    exact ⟨vs, p'.trans p, r'⟩
end ST
set_option maxHeartbeats 1000000
/-! estates: houses, each with a book, and what gangs are booked -/
namespace My
open PySem PySem.W PySem.Spec PyProof.Rows L2 GX GxR
/-- an entry: its gang, stretch and amount, and how many tasks -/
structure Em where
  x : Bw
  many : Int
structure Hm where
  name : Str
  yard : Str
  kind : Option Str
  state : Str
  room : List Int
  es : List Em
structure HAd where
  a : Addr
  dx : Addr
  b : Addr
  bdx : Addr
  m : Addr
  d : Addr
  lv : V
  ps : List (Key × V)
def optS : Option Str → V
  | none => .non
  | some z => .str z
def hfl (h : Hm) (b : Addr) : List (Str × V) := [("yard", .str h.yard), ("kind", optS h.kind), ("state", .str h.state), ("book", .ref b)]
def Hm.bs (h : Hm) : List Bw := h.es.map (·.x)
structure HsAt (CH CB : Addr) (H : Hp) (x : HAd) (h : Hm) : Prop where
  obj : H x.a = some (.ins CH x.dx (hfl h x.b))
  book : BookAt H CB x.b x.bdx x.m x.d x.lv x.ps h.room h.bs
  lf : LeftsAt H x.lv h.room h.bs
/-- no list among these places -/
def NoL (S : List Addr) (H : Hp) : Prop := ∀ s ∈ S, ∀ us : List Addr, H s ≠ some (.lst (us.map V.ref))
theorem NoL.one {H : Hp} {y : Addr} {o : HO} (e : H y = some o) (n : ∀ us, o ≠ .lst us) : NoL [y] H := fun s hs us h => by
  rw [List.mem_singleton.mp hs, e] at h
  exact n _ (Option.some.inj h)
theorem LeftsAt.same {H H' : Hp} {lv : V} {room : List Int} {rs : List Bw} (s : Same H H') (h : LeftsAt H lv room rs) : LeftsAt H' lv room rs := by
  rcases h with h | ⟨l, ls, ks, h1, h2, h3, h4⟩
  · exact .inl h
  · exact .inr ⟨l, ls, ks, h1, s _ _ h2, h3, h4.mono fun _ _ x => x.kt (Same.kt s)⟩
theorem LeftsAt.kp {H H' : Hp} {lv : V} {room : List Int} {rs : List Bw} {S : List Addr} (k : Kp S H H') (kt : KTu H H') (nl : NoL S H) (h : LeftsAt H lv room rs) : LeftsAt H' lv room rs := by
  rcases h with h | ⟨l, ls, ks, h1, h2, h3, h4⟩
  · exact .inl h
  · exact .inr ⟨l, ls, ks, h1, k _ _ (fun z => nl _ z _ h2) h2, h3, h4.mono fun _ _ x => x.kt kt⟩
/-- a house that is alike but for its addresses -/
abbrev Hp2 := HAd × Hm
def hkv (L : List Hp2) : List (Key × V) := L.map fun p => (Sum.inr p.2.name, .ref p.1.a)
def names (L : List Hp2) : List Str := L.map (·.2.name)
theorem hkv_keys (L : List Hp2) : (hkv L).map (·.1) = (names L).map Sum.inr := by
  unfold hkv names
  rw [List.map_map, List.map_map]
  rfl
/-- where a gang has entries, by rising houses, with how many tasks -/
structure PlOf (M : List Hm) (z : Str) (ps : List (Str × Int)) : Prop where
  so : sortedS (ps.map (·.1)) = true
  nd : (ps.map (·.1)).Nodup
  is : ∀ h n, (h, n) ∈ ps ↔ ∃ hm ∈ M, hm.name = h ∧ ∃ em ∈ hm.es, em.x.key = z ∧ em.many = n
def Booked (M : List Hm) (z : Str) : Prop := ∃ hm ∈ M, ∃ em ∈ hm.es, em.x.key = z
/-- what holds of the houses and entries by themselves -/
structure EGood (M : List Hm) : Prop where
  few : M.length ≤ 60
  nd : (M.map (·.name)).Nodup
  nm : ∀ h ∈ M, h.name.length ≤ 100
  keys : ∀ h ∈ M, ∀ em ∈ h.es, em.x.key.length ≤ 100
  same : ∀ h ∈ M, ∀ h' ∈ M, ∀ em ∈ h.es, ∀ em' ∈ h'.es, em.x.key = em'.x.key → em.x.b = em'.x.b ∧ em.x.e = em'.x.e
  nn : ∀ h ∈ M, ∀ n ∈ h.room, 0 ≤ n
structure EsAt (CE CH CB : Addr) (H : Hp) (e edx hd pd : Addr) (pps : List (Key × V)) (L : List Hp2) : Prop where
  obj : H e = some (.ins CE edx [("houses", .ref hd), ("placings", .ref pd)])
  hs : H hd = some (.dK (hkv L))
  pl : H pd = some (.dK pps)
  each : ∀ p ∈ L, HsAt CH CB H p.1 p.2
  plk : ∃ zs : List Str, pps.map (·.1) = zs.map Sum.inr ∧ zs.Nodup ∧ zs.length ≤ 100 ∧ ∀ z, z ∈ zs ↔ Booked (L.map (·.2)) z
  pls : ∀ z v, valV pps (Sum.inr z : Key) = some v → ∃ t ps, v = .ref t ∧ PairsF H t ps ∧ PlOf (L.map (·.2)) z ps
  sa : (L.map (·.1.a)).Nodup
  sb : (L.map (·.1.b)).Nodup
  sd : (hd :: pd :: L.map (·.1.d)).Nodup
  good : EGood (L.map (·.2))
/-- the places that an estate alters -/
def foot (e hd pd : Addr) (L : List Hp2) : List Addr := e :: hd :: pd :: (L.map (·.1.a) ++ (L.map (·.1.b) ++ L.map (·.1.d)))
theorem foot_mem {e hd pd x : Addr} {L : List Hp2} : x ∈ foot e hd pd L ↔ x = e ∨ x = hd ∨ x = pd ∨ ∃ p ∈ L, x = p.1.a ∨ x = p.1.b ∨ x = p.1.d := by
  unfold foot
  simp only [List.mem_cons, List.mem_append, List.mem_map]
  constructor
  · rintro (h | h | h | ⟨p, hp, h⟩ | ⟨p, hp, h⟩ | ⟨p, hp, h⟩)
    · exact .inl h
    · exact .inr (.inl h)
    · exact .inr (.inr (.inl h))
    · exact .inr (.inr (.inr ⟨p, hp, .inl h.symm⟩))
    · exact .inr (.inr (.inr ⟨p, hp, .inr (.inl h.symm)⟩))
    · exact .inr (.inr (.inr ⟨p, hp, .inr (.inr h.symm)⟩))
  · rintro (h | h | h | ⟨p, hp, h | h | h⟩)
    · exact .inl h
    · exact .inr (.inl h)
    · exact .inr (.inr (.inl h))
    · exact .inr (.inr (.inr (.inl ⟨p, hp, h.symm⟩)))
    · exact .inr (.inr (.inr (.inr (.inl ⟨p, hp, h.symm⟩))))
    · exact .inr (.inr (.inr (.inr (.inr ⟨p, hp, h.symm⟩))))
section
variable {CE CH CB e edx hd pd : Addr} {H H' : Hp} {pps : List (Key × V)} {L : List Hp2}
theorem HsAt.same {x : HAd} {h : Hm} (s : Same H H') (B : HsAt CH CB H x h) : HsAt CH CB H' x h := ⟨s _ _ B.obj, B.book.same s, B.lf.same s⟩
theorem BookAt.kp {C a dx m d : Addr} {lv : V} {ps : List (Key × V)} {room : List Int} {rs : List Bw} {S : List Addr} (k : Kp S H H') (kt : KTu H H') (na : a ∉ S) (nd : d ∉ S) (B : BookAt H C a dx m d lv ps room rs) : BookAt H' C a dx m d lv ps room rs :=
  ⟨k _ _ na B.obj, kt _ _ B.rm, k _ _ nd B.en, B.prs.mono fun _ _ x => x.kt kt, B.nd, B.few, B.ok, B.r1, B.r20⟩
theorem HsAt.kp {x : HAd} {h : Hm} {S : List Addr} (k : Kp S H H') (kt : KTu H H') (na : x.a ∉ S) (nb : x.b ∉ S) (nd : x.d ∉ S) (nl : NoL S H) (B : HsAt CH CB H x h) : HsAt CH CB H' x h := ⟨k _ _ na B.obj, B.book.kp k kt nb nd, B.lf.kp k kt nl⟩
theorem PairsAt.kq2 {t : Addr} {ps : List (Str × Int)} {S : List Addr} (k : Kp S H H') (kt : KTu H H') (ns : ∀ x ∈ S, ∀ o u, H x ≠ some (.frz o u)) (h : PairsAt H t ps) : PairsAt H' t ps := by
  obtain ⟨vs, h1, h2⟩ := h
  refine ⟨vs, ?_, h2.kt kt⟩
  rcases h1 with h1 | ⟨o, h1⟩
  · exact .inl (kt _ _ h1)
  · exact .inr ⟨o, k _ _ (fun z => ns _ z _ _ h1) h1⟩
theorem PairsF.kq2 {t : Addr} {ps : List (Str × Int)} {S : List Addr} (k : Kp S H H') (kt : KTu H H') (ns : ∀ x ∈ S, ∀ o u, H x ≠ some (.frz o u)) (h : PairsF H t ps) : PairsF H' t ps := by
  obtain ⟨vs, ⟨o, h1, h2⟩, h3⟩ := h
  exact ⟨vs, ⟨o, k _ _ (fun z => ns _ z _ _ h1) h1, h2⟩, h3.kt kt⟩
theorem EsAt.same (s : Same H H') (B : EsAt CE CH CB H e edx hd pd pps L) : EsAt CE CH CB H' e edx hd pd pps L :=
  ⟨s _ _ B.obj, s _ _ B.hs, s _ _ B.pl, fun p hp => (B.each p hp).same s, B.plk, fun z v h => by
    obtain ⟨t, ps, h1, h2, h3⟩ := B.pls z v h
    exact ⟨t, ps, h1, h2.same s, h3⟩, B.sa, B.sb, B.sd, B.good⟩
theorem EsAt.nd (B : EsAt CE CH CB H e edx hd pd pps L) : (names L).Nodup := by
  have := B.good.nd
  rw [List.map_map] at this
  exact this
/-- a house by its name -/
theorem EsAt.get (B : EsAt CE CH CB H e edx hd pd pps L) {p : Hp2} (hp : p ∈ L) : valV (hkv L) (Sum.inr p.2.name : Key) = some (.ref p.1.a) := by
  obtain ⟨i, hi⟩ := List.mem_iff_getElem?.mp hp
  refine valV_get ?_ (i := i) ?_
  · rw [hkv_keys]
    exact keys_nd B.nd
  · unfold hkv
    rw [List.getElem?_map, hi]
    rfl
theorem EsAt.has (B : EsAt CE CH CB H e edx hd pd pps L) {z : Str} {v : V} (h : valV (hkv L) (Sum.inr z : Key) = some v) : ∃ p ∈ L, p.2.name = z ∧ v = .ref p.1.a := by
  have h1 : ((hkv L).any fun kv => decide (kv.1 = (Sum.inr z : Key))) = true := by
    rw [valV_any, h]
    rfl
  obtain ⟨kv, m1, m2⟩ := List.any_eq_true.mp h1
  obtain ⟨p, hp, e⟩ := List.mem_map.mp m1
  have e1 : (Sum.inr p.2.name : Key) = Sum.inr z := (congrArg Prod.fst e).trans (of_decide_eq_true m2)
  injection e1 with e1
  refine ⟨p, hp, e1, ?_⟩
  have := B.get hp
  rw [e1, h] at this
  exact Option.some.inj this
theorem EsAt.none (B : EsAt CE CH CB H e edx hd pd pps L) {z : Str} : valV (hkv L) (Sum.inr z : Key) = none ↔ z ∉ names L := by
  constructor
  · intro h hz
    obtain ⟨p, hp, e⟩ := List.mem_map.mp hz
    have := B.get hp
    rw [e, h] at this
    cases this
  · intro h
    cases e : valV (hkv L) (Sum.inr z : Key) with
    | none => rfl
    | some v =>
      obtain ⟨p, hp, e1, _⟩ := B.has e
      exact absurd (List.mem_map.mpr ⟨p, hp, e1⟩) h
end
/-- the houses' dict alone -/
structure EhAt (CE : Addr) (H : Hp) (e edx hd pd : Addr) (L : List Hp2) : Prop where
  obj : H e = some (.ins CE edx [("houses", .ref hd), ("placings", .ref pd)])
  hs : H hd = some (.dK (hkv L))
  nd : (names L).Nodup
  few : L.length ≤ 60
section
variable {CE CH CB e edx hd pd : Addr} {H H' : Hp} {pps : List (Key × V)} {L : List Hp2}
theorem EsAt.eh (B : EsAt CE CH CB H e edx hd pd pps L) : EhAt CE H e edx hd pd L := ⟨B.obj, B.hs, B.nd, by have := B.good.few; rwa [List.length_map] at this⟩
theorem EhAt.same (s : Same H H') (B : EhAt CE H e edx hd pd L) : EhAt CE H' e edx hd pd L := ⟨s _ _ B.obj, s _ _ B.hs, B.nd, B.few⟩
theorem EhAt.get (B : EhAt CE H e edx hd pd L) {p : Hp2} (hp : p ∈ L) : valV (hkv L) (Sum.inr p.2.name : Key) = some (.ref p.1.a) := by
  obtain ⟨i, hi⟩ := List.mem_iff_getElem?.mp hp
  refine valV_get ?_ (i := i) ?_
  · rw [hkv_keys]
    exact keys_nd B.nd
  · unfold hkv
    rw [List.getElem?_map, hi]
    rfl
theorem EhAt.has (B : EhAt CE H e edx hd pd L) {z : Str} {v : V} (h : valV (hkv L) (Sum.inr z : Key) = some v) : ∃ p ∈ L, p.2.name = z ∧ v = .ref p.1.a := by
  have h1 : ((hkv L).any fun kv => decide (kv.1 = (Sum.inr z : Key))) = true := by
    rw [valV_any, h]
    rfl
  obtain ⟨kv, m1, m2⟩ := List.any_eq_true.mp h1
  obtain ⟨p, hp, e⟩ := List.mem_map.mp m1
  have e1 : (Sum.inr p.2.name : Key) = Sum.inr z := (congrArg Prod.fst e).trans (of_decide_eq_true m2)
  injection e1 with e1
  refine ⟨p, hp, e1, ?_⟩
  have := B.get hp
  rw [e1, h] at this
  exact Option.some.inj this
theorem EhAt.none (B : EhAt CE H e edx hd pd L) {z : Str} : valV (hkv L) (Sum.inr z : Key) = none ↔ z ∉ names L := by
  constructor
  · intro h hz
    obtain ⟨p, hp, e⟩ := List.mem_map.mp hz
    have := B.get hp
    rw [e, h] at this
    cases this
  · intro h
    cases e : valV (hkv L) (Sum.inr z : Key) with
    | none => rfl
    | some v =>
      obtain ⟨p, hp, e1, _⟩ := B.has e
      exact absurd (List.mem_map.mpr ⟨p, hp, e1⟩) h
end
/-! what the methods do -/
abbrev efl (hd pd : Addr) : List (Str × V) := [("houses", .ref hd), ("placings", .ref pd)]
def spHOf (CE NH : Addr) : Sp := fun vs H Q E => ∃ (e edx hd pd : Addr) (L : List Hp2) (z : Str), vs = [.ref e, .str z] ∧ EhAt CE H e edx hd pd L ∧ z.length ≤ 100 ∧
  (∀ p ∈ L, p.2.name = z → Q (.ref p.1.a) H) ∧ (z ∉ names L → E (.ref NH) none H)
def spIsB (CE : Addr) : Sp := fun vs H Q _ => ∃ (e edx hd pd : Addr) (pps : List (Key × V)) (z : Str), vs = [.ref e, .str z] ∧ H e = some (.ins CE edx (efl hd pd)) ∧ H pd = some (.dK pps) ∧
  Q (.bl (valV pps (Sum.inr z : Key)).isSome) H
def spPlOf (CE NG : Addr) : Sp := fun vs H Q E => ∃ (e edx hd pd : Addr) (pps : List (Key × V)) (z : Str), vs = [.ref e, .str z] ∧ H e = some (.ins CE edx (efl hd pd)) ∧ H pd = some (.dK pps) ∧ z.length ≤ 100 ∧
  (∀ v, valV pps (Sum.inr z : Key) = some v → Q v H) ∧ (valV pps (Sum.inr z : Key) = none → E (.ref NG) none H)
def spKeepP (K : PySem.W.Frag) (CE : Addr) : Sp := fun vs H Q _ => ∃ (e edx hd pd l : Addr) (pps : List (Key × V)) (z : Str) (us : List V), vs = [.ref e, .str z, .ref l] ∧ H e = some (.ins CE edx (efl hd pd)) ∧ H pd = some (.dK pps) ∧ H l = some (.lst us) ∧ pps.length < 1000 ∧
  (us = [] → ((valV pps (Sum.inr z : Key)).isSome = true → Q .non (upd H pd (.dK (dropK pps (Sum.inr z))))) ∧ ((valV pps (Sum.inr z : Key)) = none → Q .non H)) ∧
  (us ≠ [] → ∀ (t : Addr) (o : Obj), H t = none → o.cls = .type "tuple" → o.dict = none → Q .non (upd (upd H t (.frz o (.tup us))) pd (.dK (putK pps (Sum.inr z) (.ref t)))))
def RiAt (H : Hp) (t : Addr) (p : Hp2) : Prop := H t = some (.tup [.str p.2.name, .ref p.1.a])
theorem sml {n : Nat} (h : n ≤ 1000) : n < sizeLine := Nat.lt_of_le_of_lt h (by decide)
theorem RiAt.same {H H' : Hp} (s : Same H H') {t : Addr} {p : Hp2} (h : RiAt H t p) : RiAt H' t p := s _ _ h
theorem RiAt.put {H : Hp} {D t : Addr} {p : Hp2} {xs ys : List V} (e : H D = some (.lst xs)) (h : RiAt H t p) : RiAt (upd H D (.lst ys)) t p := by
  unfold RiAt at h ⊢
  rw [upd_ne (fun z => by rw [z, e] at h; cases h)]
  exact h
theorem paired_snoc {α β : Type} {R : α → β → Prop} {xs : List α} {ys : List β} {x : α} {y : β} (h : Paired R xs ys) (r : R x y) : Paired R (xs ++ [x]) (ys ++ [y]) := paired_app h (.cons r .nil)
def spRise (CE : Addr) : Sp := fun vs H Q _ => ∃ (e edx hd pd : Addr) (L : List Hp2), vs = [.ref e] ∧ EhAt CE H e edx hd pd L ∧
  ∀ (l : Addr) (L' : List Hp2) (ts : List Addr) (H' : Hp), L'.Perm L → sortedS (names L') = true → Same H H' → H l = none → H' l = some (.lst (ts.map V.ref)) → Paired (RiAt H') ts L' → Q (.ref l) H'
structure ECls (K : PySem.W.Frag) (CE : Addr) : Prop where
  cls : Cls K CE
  houses : NoAttr K CE "houses"
  placings : NoAttr K CE "placings"
structure HCls (K : PySem.W.Frag) (CH : Addr) : Prop where
  cls : Cls K CH
  yard : NoAttr K CH "yard"
  kind : NoAttr K CH "kind"
  state : NoAttr K CH "state"
  book : NoAttr K CH "book"
end My
set_option maxHeartbeats 1000000
/-! estates: what more of its methods do -/
namespace My
open PySem PySem.W PySem.Spec PyProof.Rows L2 GX GxR
def HrAt (H : Hp) (t : Addr) (p : Hp2) : Prop := H t = some (.tup [.str p.2.name, .str p.2.yard, .ref p.1.m, optS p.2.kind, .str p.2.state])
def WsAt (H : Hp) (t : Addr) (p : Hp2) : Prop := H t = some (.tup [.str p.2.name, .str p.2.yard, .ref p.1.m])
theorem HrAt.same {H H' : Hp} (s : Same H H') {t : Addr} {p : Hp2} (h : HrAt H t p) : HrAt H' t p := s _ _ h
theorem WsAt.same {H H' : Hp} (s : Same H H') {t : Addr} {p : Hp2} (h : WsAt H t p) : WsAt H' t p := s _ _ h
theorem HrAt.put {H : Hp} {D t : Addr} {p : Hp2} {xs ys : List V} (e : H D = some (.lst xs)) (h : HrAt H t p) : HrAt (upd H D (.lst ys)) t p := by
  unfold HrAt at h ⊢
  rw [upd_ne (fun z => by rw [z, e] at h; cases h)]
  exact h
theorem WsAt.put {H : Hp} {D t : Addr} {p : Hp2} {xs ys : List V} (e : H D = some (.lst xs)) (h : WsAt H t p) : WsAt (upd H D (.lst ys)) t p := by
  unfold WsAt at h ⊢
  rw [upd_ne (fun z => by rw [z, e] at h; cases h)]
  exact h
def spHRows (CE CH CB : Addr) : Sp := fun vs H Q _ => ∃ (e edx hd pd : Addr) (L : List Hp2), vs = [.ref e] ∧ EhAt CE H e edx hd pd L ∧ (∀ p ∈ L, HsAt CH CB H p.1 p.2) ∧
  ∀ (l : Addr) (L' : List Hp2) (ts : List Addr) (H' : Hp), L'.Perm L → sortedS (names L') = true → Same H H' → H l = none → H' l = some (.lst (ts.map V.ref)) → Paired (HrAt H') ts L' → Q (.ref l) H'
def spEIn (CE CH CB NH : Addr) : Sp := fun vs H Q E => ∃ (e edx hd pd : Addr) (L : List Hp2) (z : Str), vs = [.ref e, .str z] ∧ EhAt CE H e edx hd pd L ∧ (∀ p ∈ L, HsAt CH CB H p.1 p.2) ∧ z.length ≤ 100 ∧
  (∀ p ∈ L, p.2.name = z → ∀ l H' as ss, Same H H' → H l = none → H' l = some (.lst (as.map V.ref)) → Paired (BwAt H') as ss → InKeys p.2.bs ss → Q (.ref l) H') ∧ (z ∉ names L → E (.ref NH) none H)
def spSetS (CE CH NH : Addr) : Sp := fun vs H Q E => ∃ (e edx hd pd : Addr) (L : List Hp2) (z st : Str), vs = [.ref e, .str z, .str st] ∧ EhAt CE H e edx hd pd L ∧ (∀ p ∈ L, H p.1.a = some (.ins CH p.1.dx (hfl p.2 p.1.b))) ∧ z.length ≤ 100 ∧
  (∀ p ∈ L, p.2.name = z → Q .non (upd H p.1.a (.ins CH p.1.dx (hfl { p.2 with state := st } p.1.b)))) ∧ (z ∉ names L → E (.ref NH) none H)
/-- a new house -/
def spHInit (CH : Addr) : Sp := fun vs H Q _ => ∃ (a dx b : Addr) (y st : Str) (kd : Option Str), vs = [.ref a, .str y, optS kd, .str st, .ref b] ∧ H a = some (.ins CH dx []) ∧
  Q .non (upd H a (.ins CH dx (hfl ⟨Str.ofString "", y, kd, st, [], []⟩ b)))
/-- a new estate -/
def spEInit (CE : Addr) : Sp := fun vs H Q _ => ∃ (e edx : Addr), vs = [.ref e] ∧ H e = some (.ins CE edx []) ∧
  ∀ hd pd H', H hd = none → H pd = none → hd ≠ pd → Kp [e] H H' → H' e = some (.ins CE edx (efl hd pd)) → H' hd = some (.dK []) → H' pd = some (.dK []) → Q .non H'
def spAdd (CE CH CB TK : Addr) : Sp := fun vs H Q E => ∃ (e edx hd pd m : Addr) (L : List Hp2) (z y : Str) (kd : Option Str), vs = [.ref e, .str z, .str y, .ref m, optS kd] ∧ EhAt CE H e edx hd pd L ∧ z.length ≤ 100 ∧
  (z ∈ names L → E (.ref TK) none H) ∧ (z ∉ names L → ∀ (a dx b bdx d : Addr) (H' : Hp), H a = none → H b = none → H d = none → Kp [hd] H H' → H' a = some (.ins CH dx (hfl ⟨z, y, kd, Str.ofString "open", [], []⟩ b)) → H' b = some (.ins CB bdx (flds m d .non)) → H' d = some (.dK []) →
    H' hd = some (.dK (putK (hkv L) (Sum.inr z) (.ref a))) → Q .non H')
end My
set_option maxHeartbeats 1000000
/-! estates: stretches, twins of books -/
namespace My
open PySem PySem.W PySem.Spec PyProof.Rows L2 GX GxR
theorem plk_val {pps : List (Key × V)} {zs : List Str} (e : pps.map (·.1) = zs.map Sum.inr) (nd : zs.Nodup) {z : Str} : (valV pps (Sum.inr z : Key)).isSome = true ↔ z ∈ zs := by
  rw [← valV_any, List.any_eq_true]
  constructor
  · rintro ⟨kv, m1, m2⟩
    have : kv.1 ∈ pps.map (·.1) := List.mem_map.mpr ⟨kv, m1, rfl⟩
    rw [e, of_decide_eq_true m2] at this
    obtain ⟨z', h2, h3⟩ := List.mem_map.mp this
    injection h3 with h3
    rw [← h3]
    exact h2
  · intro h
    have : (Sum.inr z : Key) ∈ pps.map (·.1) := by
      rw [e]
      exact List.mem_map.mpr ⟨z, h, rfl⟩
    obtain ⟨kv, m1, m2⟩ := List.mem_map.mp this
    exact ⟨kv, m1, decide_eq_true m2⟩
section
variable {CE CH CB e edx hd pd : Addr} {H H' : Hp} {pps : List (Key × V)} {L : List Hp2}
theorem EsAt.booked_iff (B : EsAt CE CH CB H e edx hd pd pps L) {z : Str} : (valV pps (Sum.inr z : Key)).isSome = true ↔ Booked (L.map (·.2)) z := by
  obtain ⟨zs, h1, h2, _, h3⟩ := B.plk
  rw [plk_val h1 h2]
  exact h3 z
theorem EsAt.booked (B : EsAt CE CH CB H e edx hd pd pps L) {z : Str} {v : V} (h : valV pps (Sum.inr z : Key) = some v) : Booked (L.map (·.2)) z := B.booked_iff.mp (by rw [h]; rfl)
theorem EsAt.not_booked (B : EsAt CE CH CB H e edx hd pd pps L) {z : Str} (h : valV pps (Sum.inr z : Key) = Option.none) : ¬ Booked (L.map (·.2)) z := fun g => by
  have := B.booked_iff.mpr g
  rw [h] at this
  cases this
end
def spStOf (CE CH CB NG : Addr) : Sp := fun vs H Q E => ∃ (e edx hd pd : Addr) (pps : List (Key × V)) (L : List Hp2) (z : Str), vs = [.ref e, .str z] ∧ EsAt CE CH CB H e edx hd pd pps L ∧ z.length ≤ 100 ∧
  (∀ p ∈ L, ∀ em ∈ p.2.es, em.x.key = z → ∀ t H', Same H H' → H' t = some (.tup [.int em.x.b, .int em.x.e]) → Q (.ref t) H') ∧ (¬ Booked (L.map (·.2)) z → E (.ref NG) none H)
theorem efl_hfl {CE CH edx dx hd pd b : Addr} {h : Hm} : some (HO.ins CE edx (efl hd pd)) ≠ some (HO.ins CH dx (hfl h b)) := fun z => by
  injection z with z
  injection z with _ _ z
  exact absurd (congrArg List.length z) (by show ¬ 2 = 4; decide)
theorem putK_app {kvs : List (Key × V)} {k : Key} {v : V} (h : ∀ p ∈ kvs, p.1 ≠ k) : putK kvs k v = kvs ++ [(k, v)] := by
  unfold putK
  rw [if_neg]
  intro z
  obtain ⟨p, hp, e⟩ := List.any_eq_true.mp z
  exact h p hp (of_decide_eq_true e)
/-- a twin of a house's book -/
structure Tw where
  p : Hp2
  a : Addr
  dx : Addr
  d : Addr
def wkv (W : List Tw) : List (Key × V) := W.map fun t => (Sum.inr t.p.2.name, .ref t.a)
def TwAt (CB : Addr) (H : Hp) (t : Tw) : Prop := BookAt H CB t.a t.dx t.p.1.m t.d t.p.1.lv t.p.1.ps t.p.2.room t.p.2.bs
structure TwsAt (CB : Addr) (H H' : Hp) (D : Addr) (W : List Tw) (L : List Hp2) : Prop where
  dict : H' D = some (.dK (wkv W))
  each : ∀ t ∈ W, t.p ∈ L ∧ H t.a = none ∧ H t.d = none ∧ TwAt CB H' t
  na : (W.map (·.a)).Nodup
  nd : (D :: W.map (·.d)).Nodup
def spTwB (CE CH CB NH : Addr) : Sp := fun vs H Q E => ∃ (e edx hd pd l : Addr) (L : List Hp2) (zs : List Str), vs = [.ref e, .ref l] ∧ EhAt CE H e edx hd pd L ∧ (∀ p ∈ L, HsAt CH CB H p.1 p.2) ∧ H l = some (.lst (zs.map V.str)) ∧ zs.Nodup ∧ zs.length ≤ 60 ∧ (∀ z ∈ zs, z.length ≤ 100) ∧
  (∀ D W H', Same H H' → H D = none → W.map (fun t => t.p.2.name) = zs → TwsAt CB H H' D W L → Q (.ref D) H') ∧ (∀ z ∈ zs, z ∉ names L → ∀ H', Same H H' → E (.ref NH) none H')
def spKeepB (CE CH NH : Addr) : Sp := fun vs H Q E => ∃ (e edx hd pd D : Addr) (L : List Hp2) (W : List Tw), vs = [.ref e, .ref D] ∧ EhAt CE H e edx hd pd L ∧ (∀ p ∈ L, H p.1.a = some (.ins CH p.1.dx (hfl p.2 p.1.b))) ∧ H D = some (.dK (wkv W)) ∧ hd ≠ D ∧ (∀ t ∈ W, t.p ∈ L) ∧ (W.map fun t => t.p.2.name).Nodup ∧ (L.map (·.1.a)).Nodup ∧ (∀ p ∈ L, p.2.name.length ≤ 100) ∧
  (∀ H', Kp (W.map (·.p.1.a)) H H' → KTu H H' → (∀ t ∈ W, H' t.p.1.a = some (.ins CH t.p.1.dx (hfl t.p.2 t.a))) → Q .non H')
end My
set_option maxHeartbeats 1000000
/-! estates: what is altered in place -/
namespace My
open PySem PySem.W PySem.Spec PyProof.Rows L2 GX GxR
theorem choose_list {α β : Type} {R : α → β → Prop} : ∀ {L : List α}, (∀ p ∈ L, ∃ q, R p q) → ∃ L1 : List β, Paired R L L1
  | [], _ => ⟨[], .nil⟩
  | p :: L, h => by
    obtain ⟨q, hq⟩ := h p List.mem_cons_self
    obtain ⟨L1, h1⟩ := choose_list fun x hx => h x (List.mem_cons_of_mem _ hx)
    exact ⟨q :: L1, .cons hq h1⟩
theorem paired_map {α β γ : Type} {R : α → β → Prop} {f : α → γ} {g : β → γ} (h : ∀ a b, R a b → g b = f a) : ∀ {xs : List α} {ys : List β}, Paired R xs ys → ys.map g = xs.map f
  | _, _, .nil => rfl
  | _, _, .cons r t => by rw [List.map_cons, List.map_cons, h _ _ r, paired_map h t]
theorem paired_mem {α β : Type} {R : α → β → Prop} : ∀ {xs : List α} {ys : List β}, Paired R xs ys → ∀ y ∈ ys, ∃ x ∈ xs, R x y
  | _, _, .nil, _, h => by cases h
  | _, _, .cons r t, y, h => by
    rcases List.mem_cons.mp h with z | z
    · rw [z]
      exact ⟨_, List.mem_cons_self, r⟩
    · obtain ⟨x, hx, hr⟩ := paired_mem t y z
      exact ⟨x, List.mem_cons_of_mem _ hx, hr⟩
/-- the house at p's places, as h -/
def InAt (CH CB : Addr) (H : Hp) (p : Hp2) (h : Hm) : Prop := ∃ x : HAd, x.a = p.1.a ∧ x.b = p.1.b ∧ x.d = p.1.d ∧ HsAt CH CB H x h
/-- what an estate's deed leaves -/
def After (CE CH CB : Addr) (Ts : List Addr) (H : Hp) (e edx hd pd : Addr) (L : List Hp2) (M' : List Hm) (H' : Hp) : Prop :=
  ∃ pps' L1, Kp (foot e hd pd L ++ Ts) H H' ∧ Tabs Ts H' ∧ EsAt CE CH CB H' e edx hd pd pps' L1 ∧ L1.map (·.2) = M' ∧ ∀ x ∈ foot e hd pd L1, x ∈ foot e hd pd L ∨ H x = none
section
variable {CE CH CB e edx hd pd : Addr} {H H' : Hp} {pps pps' : List (Key × V)} {L : List Hp2}
theorem EsAt.inplace {g : Hm → Hm} (gn : ∀ h, (g h).name = h.name) (B : EsAt CE CH CB H e edx hd pd pps L) (o : H' e = some (.ins CE edx (efl hd pd))) (hh : H' hd = some (.dK (hkv L))) (hp : H' pd = some (.dK pps')) (each : ∀ p ∈ L, InAt CH CB H' p (g p.2))
    (plk : ∃ zs : List Str, pps'.map (·.1) = zs.map Sum.inr ∧ zs.Nodup ∧ zs.length ≤ 100 ∧ ∀ z, z ∈ zs ↔ Booked ((L.map (·.2)).map g) z)
    (pls : ∀ z v, valV pps' (Sum.inr z : Key) = some v → ∃ t ps, v = .ref t ∧ PairsF H' t ps ∧ PlOf ((L.map (·.2)).map g) z ps) (good : EGood ((L.map (·.2)).map g)) :
    ∃ L1, EsAt CE CH CB H' e edx hd pd pps' L1 ∧ L1.map (·.2) = (L.map (·.2)).map g ∧ ∀ x ∈ foot e hd pd L1, x ∈ foot e hd pd L := by
  obtain ⟨L1, pr⟩ : ∃ L1 : List Hp2, Paired (fun p q : Hp2 => q.1.a = p.1.a ∧ q.1.b = p.1.b ∧ q.1.d = p.1.d ∧ q.2 = g p.2 ∧ HsAt CH CB H' q.1 q.2) L L1 := choose_list fun p hp => by
    obtain ⟨x, h1, h2, h3, h4⟩ := each p hp
    exact ⟨(x, g p.2), h1, h2, h3, rfl, h4⟩
  have eM : L1.map (·.2) = (L.map (·.2)).map g := by
    rw [List.map_map]
    exact paired_map (fun a b r => r.2.2.2.1) pr
  have ea : L1.map (·.1.a) = L.map (·.1.a) := paired_map (fun a b r => r.1) pr
  have eb : L1.map (·.1.b) = L.map (·.1.b) := paired_map (fun a b r => r.2.1) pr
  have ed : L1.map (·.1.d) = L.map (·.1.d) := paired_map (fun a b r => r.2.2.1) pr
  have ek : hkv L1 = hkv L := paired_map (f := fun p : Hp2 => ((Sum.inr p.2.name : Key), V.ref p.1.a)) (g := fun p : Hp2 => ((Sum.inr p.2.name : Key), V.ref p.1.a)) (fun a b r => by rw [r.1, r.2.2.2.1, gn]) pr
  refine ⟨L1, ⟨o, by rw [ek]; exact hh, hp, fun q hq => ?_, by rw [eM]; exact plk, by rw [eM]; exact pls, by rw [ea]; exact B.sa, by rw [eb]; exact B.sb, by rw [ed]; exact B.sd, by rw [eM]; exact good⟩, eM, fun x hx => ?_⟩
  · obtain ⟨p, _, r⟩ := paired_mem pr q hq
    exact r.2.2.2.2
  · unfold foot at hx ⊢
    rw [ea, eb, ed] at hx
    exact hx
/-- the same entries of a gang -/
def Alike (h h' : Hm) (z : Str) : Prop := ∀ n, (∃ em ∈ h.es, em.x.key = z ∧ em.many = n) ↔ ∃ em ∈ h'.es, em.x.key = z ∧ em.many = n
theorem PlOf.map {M : List Hm} {g : Hm → Hm} (gn : ∀ h, (g h).name = h.name) {z : Str} {ps : List (Str × Int)} (al : ∀ h ∈ M, Alike h (g h) z) (h : PlOf M z ps) : PlOf (M.map g) z ps :=
  ⟨h.so, h.nd, fun w n => by
    rw [h.is]
    constructor
    · rintro ⟨hm, h1, h2, h3⟩
      exact ⟨g hm, List.mem_map.mpr ⟨hm, h1, rfl⟩, (gn hm).trans h2, (al hm h1 n).mp h3⟩
    · rintro ⟨hm', h1, h2, h3⟩
      obtain ⟨hm, h4, rfl⟩ := List.mem_map.mp h1
      exact ⟨hm, h4, (gn hm).symm.trans h2, (al hm h4 n).mpr h3⟩⟩
theorem booked_map {M : List Hm} {g : Hm → Hm} {z : Str} (al : ∀ h ∈ M, Alike h (g h) z) : Booked (M.map g) z ↔ Booked M z := by
  unfold Booked
  constructor
  · rintro ⟨hm', h1, em, h2, h3⟩
    obtain ⟨hm, h4, rfl⟩ := List.mem_map.mp h1
    obtain ⟨em', h5, h6, _⟩ := (al hm h4 em.many).mpr ⟨em, h2, h3, rfl⟩
    exact ⟨hm, h4, em', h5, h6⟩
  · rintro ⟨hm, h1, em, h2, h3⟩
    obtain ⟨em', h5, h6, _⟩ := (al hm h1 em.many).mp ⟨em, h2, h3, rfl⟩
    exact ⟨g hm, List.mem_map.mpr ⟨hm, h1, rfl⟩, em', h5, h6⟩
end
/-! a gang goes -/
def freeH (z : Str) (h : Hm) : Hm := { h with es := h.es.filter fun em => decide (em.x.key ≠ z) }
def freeM (z : Str) (M : List Hm) : List Hm := M.map (freeH z)
theorem free_bs (z : Str) (h : Hm) : (freeH z h).bs = h.bs.filter fun x => decide (x.key ≠ z) := by
  unfold freeH Hm.bs
  rw [List.filter_map]
  rfl
theorem free_alike {z y : Str} (n : y ≠ z) (h : Hm) : Alike h (freeH z h) y := fun m => by
  constructor
  · rintro ⟨em, h1, h2, h3⟩
    exact ⟨em, List.mem_filter.mpr ⟨h1, decide_eq_true (by rw [h2]; exact n)⟩, h2, h3⟩
  · rintro ⟨em, h1, h2, h3⟩
    exact ⟨em, (List.mem_filter.mp h1).1, h2, h3⟩
theorem free_booked {z y : Str} {M : List Hm} : Booked (freeM z M) y ↔ Booked M y ∧ y ≠ z := by
  constructor
  · rintro ⟨hm', h1, em, h2, h3⟩
    obtain ⟨hm, h4, rfl⟩ := List.mem_map.mp h1
    obtain ⟨h5, h6⟩ := List.mem_filter.mp h2
    exact ⟨⟨hm, h4, em, h5, h3⟩, by rw [← h3]; exact of_decide_eq_true h6⟩
  · rintro ⟨⟨hm, h1, em, h2, h3⟩, ne⟩
    exact ⟨freeH z hm, List.mem_map.mpr ⟨hm, h1, rfl⟩, em, List.mem_filter.mpr ⟨h2, decide_eq_true (by rw [h3]; exact ne)⟩, h3⟩
/-- entries that are some of those that were, in houses that are alike otherwise -/
theorem EGood.fewer {M : List Hm} {g : Hm → Hm} (gn : ∀ h, (g h).name = h.name) (gr : ∀ h, (g h).room = h.room) (ge : ∀ h ∈ M, ∀ em ∈ (g h).es, em ∈ h.es) (G : EGood M) : EGood (M.map g) := by
  refine ⟨by rw [List.length_map]; exact G.few, ?_, fun h hh => ?_, fun h hh em he => ?_, fun h hh h' hh' em he em' he' k => ?_, fun h hh n hn => ?_⟩
  · rw [List.map_map]
    have : M.map ((fun h : Hm => h.name) ∘ g) = M.map (·.name) := List.map_congr_left fun h _ => gn h
    rw [this]
    exact G.nd
  · obtain ⟨h0, m0, rfl⟩ := List.mem_map.mp hh
    rw [gn]
    exact G.nm h0 m0
  · obtain ⟨h0, m0, rfl⟩ := List.mem_map.mp hh
    exact G.keys h0 m0 em (ge h0 m0 em he)
  · obtain ⟨h0, m0, rfl⟩ := List.mem_map.mp hh
    obtain ⟨h1, m1, rfl⟩ := List.mem_map.mp hh'
    exact G.same h0 m0 h1 m1 em (ge h0 m0 em he) em' (ge h1 m1 em' he') k
  · obtain ⟨h0, m0, rfl⟩ := List.mem_map.mp hh
    rw [gr] at hn
    exact G.nn h0 m0 n hn
theorem drop_keys {pps : List (Key × V)} {zs : List Str} {z : Str} (e : pps.map (·.1) = zs.map Sum.inr) : (dropK pps (Sum.inr z : Key)).map (·.1) = (zs.filter fun y => decide (y ≠ z)).map Sum.inr := by
  unfold dropK
  induction pps generalizing zs with
  | nil =>
    cases zs with
    | nil => rfl
    | cons _ _ => cases e
  | cons p pps ih =>
    cases zs with
    | nil => cases e
    | cons y zs =>
      rw [List.map_cons, List.map_cons] at e
      obtain ⟨e1, e2⟩ := List.cons.inj e
      rw [List.filter_cons, List.filter_cons]
      by_cases h : y = z
      · rw [if_neg (by rw [e1, h]; simp), if_neg (by simp [h])]
        exact ih e2
      · rw [if_pos (by rw [e1]; simpa using h), if_pos (by simpa using h), List.map_cons, List.map_cons, e1, ih e2]
theorem valV_drop {κ : Type} [DecidableEq κ] {k j : κ} (ne : j ≠ k) : ∀ {kvs : List (κ × V)}, valV (dropK kvs k) j = valV kvs j
  | [] => rfl
  | p :: kvs => by
    have ih := valV_drop ne (kvs := kvs)
    unfold dropK at ih ⊢
    rw [List.filter_cons]
    by_cases h : p.1 = k
    · rw [if_neg (by simp [h]), ih, valV_neg (fun z => ne (by rw [← z, h]))]
    · rw [if_pos (by simpa using h)]
      by_cases h2 : p.1 = j
      · rw [valV_pos h2, valV_pos h2]
      · rw [valV_neg h2, valV_neg h2, ih]
theorem val_drop {pps : List (Key × V)} {z y : Str} {v : V} (h : valV (dropK pps (Sum.inr z : Key)) (Sum.inr y : Key) = some v) : valV pps (Sum.inr y : Key) = some v ∧ y ≠ z := by
  have ne : y ≠ z := fun e => by
    have h1 : ((dropK pps (Sum.inr z : Key)).any fun kv => decide (kv.1 = (Sum.inr y : Key))) = true := by
      rw [valV_any, h]
      rfl
    obtain ⟨kv, m1, m2⟩ := List.any_eq_true.mp h1
    unfold dropK at m1
    have := (List.mem_filter.mp m1).2
    rw [of_decide_eq_true m2, e] at this
    simp at this
  exact ⟨by rw [← valV_drop (fun e => ne (Sum.inr.inj e))]; exact h, ne⟩
section
variable {CE CH CB e edx hd pd : Addr} {H H' : Hp} {pps pps' : List (Key × V)} {L : List Hp2}
theorem HsAt.inAt {p : Hp2} (h : HsAt CH CB H p.1 p.2) : InAt CH CB H p p.2 := ⟨p.1, rfl, rfl, rfl, h⟩
theorem InAt.same {p : Hp2} {h : Hm} (s : Same H H') (b : InAt CH CB H p h) : InAt CH CB H' p h := by
  obtain ⟨x, h1, h2, h3, h4⟩ := b
  exact ⟨x, h1, h2, h3, h4.same s⟩
theorem flds_hfl {C C' dx dx' m d b : Addr} {lv : V} {h : Hm} : some (HO.ins C dx (flds m d lv)) ≠ some (HO.ins C' dx' (hfl h b)) := fun z => by
  injection z with z
  injection z with _ _ z
  exact absurd (congrArg List.length z) (by show ¬ 3 = 4; decide)
theorem efl_flds {C C' dx dx' m d hd pd : Addr} {lv : V} : some (HO.ins C dx (efl hd pd)) ≠ some (HO.ins C' dx' (flds m d lv)) := fun z => by
  injection z with z
  injection z with _ _ z
  exact absurd (congrArg List.length z) (by show ¬ 2 = 3; decide)
/-- a dict elsewhere is altered -/
theorem InAt.off {p : Hp2} {h : Hm} {y : Addr} {kv : List (Key × V)} (hy : H y = some (.dK kv)) (ne : p.1.d ≠ y) (k : Kp [y] H H') (b : InAt CH CB H p h) : InAt CH CB H' p h := by
  obtain ⟨x, x1, x2, x3, x4⟩ := b
  have kt : KTu H H' := fun q xs e => k _ _ (fun z => by rw [List.mem_singleton.mp z, hy] at e; cases e) e
  refine ⟨x, x1, x2, x3, x4.kp k kt (fun z => ?_) (fun z => ?_) (fun z => ?_) (NoL.one hy (fun _ z => by cases z))⟩
  · have := x4.obj
    rw [List.mem_singleton.mp z, hy] at this
    cases this
  · have := x4.book.obj
    rw [List.mem_singleton.mp z, hy] at this
    cases this
  · exact ne (by rw [← x3]; exact List.mem_singleton.mp z)
/-- what stands at an estate's places -/
theorem EsAt.kind (B : EsAt CE CH CB H e edx hd pd pps L) {x : Addr} (hx : x ∈ foot e hd pd L) : (∃ C dx fs, H x = some (.ins C dx fs)) ∨ ∃ kv, H x = some (.dK kv) := by
  rcases foot_mem.mp hx with rfl | rfl | rfl | ⟨p, hp, rfl | rfl | rfl⟩
  · exact .inl ⟨_, _, _, B.obj⟩
  · exact .inr ⟨_, B.hs⟩
  · exact .inr ⟨_, B.pl⟩
  · exact .inl ⟨_, _, _, (B.each p hp).obj⟩
  · exact .inl ⟨_, _, _, (B.each p hp).book.obj⟩
  · exact .inr ⟨_, (B.each p hp).book.en⟩
theorem EsAt.bd (B : EsAt CE CH CB H e edx hd pd pps L) : (∀ x ∈ L.map (·.1.b) ++ L.map (·.1.d), x ∈ foot e hd pd L) ∧ e ∉ L.map (·.1.b) ++ L.map (·.1.d) ∧ hd ∉ L.map (·.1.b) ++ L.map (·.1.d) ∧ pd ∉ L.map (·.1.b) ++ L.map (·.1.d) ∧ (L.map (·.1.d)).Nodup ∧ hd ≠ pd := by
  have sd := B.sd
  rw [List.nodup_cons, List.nodup_cons] at sd
  have nb : ∀ y kv, H y = some (.dK kv) → y ∉ L.map (·.1.b) := fun y kv hy z => by
    obtain ⟨p, hp, e1⟩ := List.mem_map.mp z
    have := (B.each p hp).book.obj
    rw [e1, hy] at this
    cases this
  refine ⟨fun x hx => ?_, fun z => ?_, fun z => ?_, fun z => ?_, sd.2.2, fun z => sd.1 (by rw [z]; exact List.mem_cons_self)⟩
  · refine foot_mem.mpr (.inr (.inr (.inr ?_)))
    rcases List.mem_append.mp hx with z | z
    · obtain ⟨p, hp, rfl⟩ := List.mem_map.mp z
      exact ⟨p, hp, .inr (.inl rfl)⟩
    · obtain ⟨p, hp, rfl⟩ := List.mem_map.mp z
      exact ⟨p, hp, .inr (.inr rfl)⟩
  · rcases List.mem_append.mp z with z | z
    · obtain ⟨p, hp, e1⟩ := List.mem_map.mp z
      have := (B.each p hp).book.obj
      rw [e1, B.obj] at this
      exact efl_flds this
    · obtain ⟨p, hp, e1⟩ := List.mem_map.mp z
      have := (B.each p hp).book.en
      rw [e1, B.obj] at this
      cases this
  · rcases List.mem_append.mp z with z | z
    · exact nb _ _ B.hs z
    · exact sd.1 (List.mem_cons_of_mem _ z)
  · rcases List.mem_append.mp z with z | z
    · exact nb _ _ B.pl z
    · exact sd.2.1 z
theorem EsAt.tup (B : EsAt CE CH CB H e edx hd pd pps L) {S : List Addr} (hS : ∀ x ∈ S, x ∈ foot e hd pd L) (k : Kp S H H') : KTu H H' := fun q xs e => k _ _ (fun z => by
  rcases B.kind (hS q z) with ⟨_, _, _, h⟩ | ⟨_, h⟩
  · rw [h] at e; cases e
  · rw [h] at e; cases e) e
theorem EsAt.prs (B : EsAt CE CH CB H e edx hd pd pps L) {S : List Addr} (hS : ∀ x ∈ S, x ∈ foot e hd pd L) (k : Kp S H H') {t : Addr} {ps : List (Str × Int)} (h : PairsAt H t ps) : PairsAt H' t ps :=
  h.kq2 k (B.tup hS k) fun x hx o u z => by
    rcases B.kind (hS x hx) with ⟨_, _, _, h⟩ | ⟨_, h⟩
    · rw [h] at z; cases z
    · rw [h] at z; cases z
theorem EsAt.prsF (B : EsAt CE CH CB H e edx hd pd pps L) {S : List Addr} (hS : ∀ x ∈ S, x ∈ foot e hd pd L) (k : Kp S H H') {t : Addr} {ps : List (Str × Int)} (h : PairsF H t ps) : PairsF H' t ps :=
  h.kq2 k (B.tup hS k) fun x hx o u z => by
    rcases B.kind (hS x hx) with ⟨_, _, _, h⟩ | ⟨_, h⟩
    · rw [h] at z; cases z
    · rw [h] at z; cases z
theorem EsAt.free (B : EsAt CE CH CB H e edx hd pd pps L) {z : Str} (o : H' e = some (.ins CE edx (efl hd pd))) (hh : H' hd = some (.dK (hkv L))) (hp : H' pd = some (.dK (dropK pps (Sum.inr z : Key)))) (each : ∀ p ∈ L, InAt CH CB H' p (freeH z p.2))
    (kp : ∀ t ps, PairsF H t ps → PairsF H' t ps) : ∃ L1, EsAt CE CH CB H' e edx hd pd (dropK pps (Sum.inr z : Key)) L1 ∧ L1.map (·.2) = freeM z (L.map (·.2)) ∧ ∀ x ∈ foot e hd pd L1, x ∈ foot e hd pd L := by
  refine B.inplace (g := freeH z) (fun _ => rfl) o hh hp each ?_ (fun y v hv => ?_) (B.good.fewer (fun _ => rfl) (fun _ => rfl) fun h _ em he => (List.mem_filter.mp he).1)
  · obtain ⟨zs, h1, h2, h3, h4⟩ := B.plk
    refine ⟨_, drop_keys h1, h2.filter _, Nat.le_trans (List.length_filter_le _ _) h3, fun y => ?_⟩
    rw [List.mem_filter, h4, decide_eq_true_eq]
    exact free_booked.symm
  · obtain ⟨h1, ne⟩ := val_drop hv
    obtain ⟨t, ps, rfl, h2, h3⟩ := B.pls y v h1
    exact ⟨t, ps, rfl, kp t ps h2, h3.map (g := freeH z) (fun _ => rfl) fun h _ => free_alike ne h⟩
end
/-! ends altered -/
def retE (f : Str → Int → Int) (em : Em) : Em := { em with x := ⟨em.x.key, em.x.b, f em.x.key em.x.e, em.x.am⟩ }
def retH (f : Str → Int → Int) (h : Hm) : Hm := { h with es := h.es.map (retE f) }
def cutF (z : Str) (t : Int) (k : Str) (e : Int) : Int := if k = z ∧ t < e then t else e
def strF (z : Str) (t : Int) (k : Str) (e : Int) : Int := if k = z ∧ e < t then t else e
theorem ret_alike (f : Str → Int → Int) (h : Hm) (y : Str) : Alike h (retH f h) y := fun m => by
  constructor
  · rintro ⟨em, h1, h2, h3⟩
    exact ⟨retE f em, List.mem_map.mpr ⟨em, h1, rfl⟩, h2, h3⟩
  · rintro ⟨em', h1, h2, h3⟩
    obtain ⟨em, h4, rfl⟩ := List.mem_map.mp h1
    exact ⟨em, h4, h2, h3⟩
theorem EGood.ret {M : List Hm} (f : Str → Int → Int) (G : EGood M) : EGood (M.map (retH f)) := by
  refine ⟨by rw [List.length_map]; exact G.few, ?_, fun h hh => ?_, fun h hh em he => ?_, fun h hh h' hh' em he em' he' k => ?_, fun h hh n hn => ?_⟩
  · rw [List.map_map]
    exact G.nd
  · obtain ⟨h0, m0, rfl⟩ := List.mem_map.mp hh
    exact G.nm h0 m0
  · obtain ⟨h0, m0, rfl⟩ := List.mem_map.mp hh
    obtain ⟨e0, n0, rfl⟩ := List.mem_map.mp he
    exact G.keys h0 m0 e0 n0
  · obtain ⟨h0, m0, rfl⟩ := List.mem_map.mp hh
    obtain ⟨h1, m1, rfl⟩ := List.mem_map.mp hh'
    obtain ⟨e0, n0, rfl⟩ := List.mem_map.mp he
    obtain ⟨e1, n1, rfl⟩ := List.mem_map.mp he'
    have k' : e0.x.key = e1.x.key := k
    obtain ⟨g1, g2⟩ := G.same h0 m0 h1 m1 e0 n0 e1 n1 k'
    refine ⟨g1, ?_⟩
    show f e0.x.key e0.x.e = f e1.x.key e1.x.e
    rw [k', g2]
  · obtain ⟨h0, m0, rfl⟩ := List.mem_map.mp hh
    exact G.nn h0 m0 n hn
theorem ret_bs (f : Str → Int → Int) (h : Hm) : (retH f h).bs = h.bs.map fun x => ⟨x.key, x.b, f x.key x.e, x.am⟩ := by
  unfold retH Hm.bs
  rw [List.map_map, List.map_map]
  rfl
/-- one entry of the key z put in its place -/
theorem ret_put {f : Str → Int → Int} {z : Str} {rs : List Bw} {x : Bw} (nd : (rs.map (·.key)).Nodup) (hx : x ∈ rs) (hk : x.key = z) (hf : ∀ k e, k ≠ z → f k e = e) : putR rs ⟨x.key, x.b, f x.key x.e, x.am⟩ = rs.map fun y => ⟨y.key, y.b, f y.key y.e, y.am⟩ := by
  unfold putR
  rw [if_pos (List.mem_map.mpr ⟨x, hx, rfl⟩)]
  refine List.map_congr_left fun y hy => ?_
  by_cases h : y.key = x.key
  · have : y = x := nodup_inj nd y hy x hx h
    rw [if_pos h, this]
  · rw [if_neg h, hf y.key y.e (by rw [← hk]; exact h)]
theorem ret_same {f : Str → Int → Int} {rs : List Bw} (hf : ∀ y ∈ rs, f y.key y.e = y.e) : (rs.map fun y => (⟨y.key, y.b, f y.key y.e, y.am⟩ : Bw)) = rs := by
  conv => rhs; rw [← List.map_id rs]
  exact List.map_congr_left fun y hy => by rw [hf y hy]; rfl
section
variable {CE CH CB e edx hd pd : Addr} {H H' : Hp} {pps pps' : List (Key × V)} {L : List Hp2}
theorem EsAt.ret (B : EsAt CE CH CB H e edx hd pd pps L) (f : Str → Int → Int) (o : H' e = some (.ins CE edx (efl hd pd))) (hh : H' hd = some (.dK (hkv L))) (hp : H' pd = some (.dK pps)) (each : ∀ p ∈ L, InAt CH CB H' p (retH f p.2))
    (kp : ∀ t ps, PairsF H t ps → PairsF H' t ps) : ∃ L1, EsAt CE CH CB H' e edx hd pd pps L1 ∧ L1.map (·.2) = (L.map (·.2)).map (retH f) ∧ ∀ x ∈ foot e hd pd L1, x ∈ foot e hd pd L := by
  refine B.inplace (g := retH f) (fun _ => rfl) o hh hp each ?_ (fun y v hv => ?_) (B.good.ret f)
  · obtain ⟨zs, h1, h2, h3, h4⟩ := B.plk
    exact ⟨zs, h1, h2, h3, fun y => by rw [h4, booked_map fun h _ => ret_alike f h y]⟩
  · obtain ⟨t, ps, rfl, h2, h3⟩ := B.pls y v hv
    exact ⟨t, ps, rfl, kp t ps h2, h3.map (g := retH f) (fun _ => rfl) fun h _ => ret_alike f h y⟩
end
end My
namespace My
open PySem PySem.W PySem.Spec PyProof.Rows L2 GX GxR
/-! entries in the order of their keys: there is one such list -/
theorem rising_pw : ∀ (l : List Str) (p : Str), risingS p l = true → (p :: l).Pairwise (fun a b => a.cps.toList ≤ b.cps.toList)
  | [], p, _ => List.pairwise_singleton _ _
  | x :: r, p, h => by
    have h' : (!ltCps x.cps.toList p.cps.toList && risingS x r) = true := h
    rw [Bool.and_eq_true] at h'
    have ih := rising_pw r x h'.2
    have px : p.cps.toList ≤ x.cps.toList := by
      have := h'.1
      rw [ltCps_eq] at this
      refine List.not_lt.mp fun z => ?_
      rw [decide_eq_true z] at this
      cases this
    refine List.pairwise_cons.mpr ⟨fun y hy => ?_, ih⟩
    rcases List.mem_cons.mp hy with z | z
    · rw [z]
      exact px
    · exact List.le_trans px ((List.pairwise_cons.mp ih).1 y z)
theorem sorted_pw {l : List Str} (h : sortedS l = true) : l.Pairwise (fun a b => a.cps.toList ≤ b.cps.toList) := by
  cases l with
  | nil => exact .nil
  | cons x r => exact rising_pw r x h
theorem str_ext {a b : Str} (h : a.cps.toList = b.cps.toList) : a = b := by
  cases a
  cases b
  simp only at h
  rw [Array.toList_inj.mp h]
end My
namespace My
open PySem PySem.W PySem.Spec PyProof.Rows L2 GX GxR
/-! what deeds on a book come to -/
/-- ware j of what is borne at t -/
def col (j : Nat) (rs : List Bw) (t : Int) : Int := ((rs.filter (liveAt t)).map fun x => x.am.getD j 0).sum
theorem net_col {w : Nat} {rs : List Bw} {t : Int} {j : Nat} (h : j < w) : (netB w rs t).getD j 0 = col j rs t := by
  unfold netB col
  rw [List.getD_eq_getElem?_getD, List.getElem?_map, List.getElem?_range h]
  rfl
theorem col_snoc {j : Nat} {rs : List Bw} {x : Bw} {t : Int} : col j (rs ++ [x]) t = col j rs t + (if liveAt t x = true then x.am.getD j 0 else 0) := by
  unfold col
  rw [List.filter_append, List.map_append, List.sum_append, List.filter_cons]
  split
  · simp
  · simp
theorem col_cons {j : Nat} {rs : List Bw} {x : Bw} {t : Int} : col j (x :: rs) t = (if liveAt t x = true then x.am.getD j 0 else 0) + col j rs t := by
  unfold col
  rw [List.filter_cons]
  split
  · simp
  · simp
theorem col_perm {j : Nat} {rs ss : List Bw} (p : ss.Perm rs) (t : Int) : col j ss t = col j rs t := perm_sum ((p.filter _).map _)
theorem getD_nn {ns : List Int} (h : ∀ n ∈ ns, 0 ≤ n) (j : Nat) : 0 ≤ ns.getD j 0 := by
  rw [List.getD_eq_getElem?_getD]
  cases e : ns[j]? with
  | none => exact Int.le_refl 0
  | some n => exact h n (List.mem_of_getElem? e)
def NN (rs : List Bw) : Prop := ∀ x ∈ rs, ∀ n ∈ x.am, (0 : Int) ≤ n
theorem col_filter {j : Nat} {t : Int} {p : Bw → Bool} : ∀ {rs : List Bw}, NN rs → col j (rs.filter p) t ≤ col j rs t ∧ 0 ≤ col j rs t
  | [], _ => ⟨Int.le_refl _, Int.le_refl _⟩
  | x :: rs, h => by
    obtain ⟨h1, h2⟩ := col_filter (j := j) (t := t) (p := p) (rs := rs) fun y hy => h y (List.mem_cons_of_mem _ hy)
    have h3 := getD_nn (h x List.mem_cons_self) j
    rw [List.filter_cons, col_cons]
    split
    · rw [col_cons]
      split <;> omega
    · split <;> omega
theorem col_nn {j : Nat} {t : Int} {rs : List Bw} (h : NN rs) : 0 ≤ col j rs t := (col_filter (p := fun _ => true) h).2
/-- no edge behind u, up to t: the same is borne -/
theorem col_const {j : Nat} {u t : Int} {rs : List Bw} (le : u ≤ t) (h : ∀ x ∈ rs, (x.b ≤ t → x.b ≤ u) ∧ (x.e ≤ t → x.e ≤ u)) : col j rs t = col j rs u := by
  unfold col
  congr 2
  refine List.filter_congr fun x hx => ?_
  obtain ⟨h1, h2⟩ := h x hx
  unfold liveAt
  refine decide_eq_decide.mpr ⟨fun ⟨a, b⟩ => ⟨h1 a, by omega⟩, fun ⟨a, b⟩ => ⟨by omega, ?_⟩⟩
  by_cases z : t < x.e
  · exact z
  · have := h2 (by omega)
    omega
theorem fit_iff : ∀ {xs ys : List Int}, xs.length = ys.length → (fitB xs ys = true ↔ ∀ j, j < ys.length → xs.getD j 0 ≤ ys.getD j 0)
  | [], [], _ => ⟨fun _ j h => absurd h (Nat.not_lt_zero _), fun _ => rfl⟩
  | x :: xs, y :: ys, h => by
    have ih := fit_iff (xs := xs) (ys := ys) (by simpa using h)
    have e : fitB (x :: xs) (y :: ys) = (decide (x ≤ y) && fitB xs ys) := rfl
    rw [e, Bool.and_eq_true, decide_eq_true_eq, ih]
    constructor
    · rintro ⟨h1, h2⟩ j hj
      cases j with
      | zero => exact h1
      | succ j => exact h2 j (by simpa using hj)
    · intro h1
      exact ⟨h1 0 (by simp), fun j hj => h1 (j + 1) (by simpa using hj)⟩
/-- the room holds what is borne at t -/
def Fits (room : List Int) (rs : List Bw) (t : Int) : Prop := ∀ j, j < room.length → col j rs t ≤ room.getD j 0
theorem ovr_fits {room : List Int} {rs : List Bw} {t : Int} : ovr room.length rs room t = false ↔ Fits room rs t := by
  unfold ovr Fits
  rw [Bool.not_eq_false', fit_iff (netB_len _ _ _)]
  exact forall_congr' fun j => forall_congr' fun h => by rw [net_col h]
/-- so much more at t is too much -/
def moreAt (room : List Int) (rs : List Bw) (am : List Int) (t : Int) : Bool := !fitB (List.zipWith (· + ·) (netB room.length rs t) am) room
theorem more_fits {room : List Int} {rs : List Bw} {am : List Int} {t : Int} (hl : am.length = room.length) : moreAt room rs am t = false ↔ ∀ j, j < room.length → col j rs t + am.getD j 0 ≤ room.getD j 0 := by
  unfold moreAt
  have len : (List.zipWith (· + ·) (netB room.length rs t) am).length = room.length := by rw [List.length_zipWith, netB_len, hl, Nat.min_self]
  rw [Bool.not_eq_false', fit_iff len]
  refine forall_congr' fun j => forall_congr' fun h => ?_
  have e : (List.zipWith (· + ·) (netB room.length rs t) am).getD j 0 = (netB room.length rs t).getD j 0 + am.getD j 0 := by
    have h1 : j < (netB room.length rs t).length := by rw [netB_len]; exact h
    have h2 : j < am.length := by omega
    rw [List.getD_eq_getElem?_getD, List.getElem?_zipWith, List.getElem?_eq_getElem h1, List.getElem?_eq_getElem h2, List.getD_eq_getElem?_getD, List.getD_eq_getElem?_getD, List.getElem?_eq_getElem h1, List.getElem?_eq_getElem h2]
    rfl
  rw [e, net_col h]
/-- the first time of [b, e) at which so much more is too much -/
def IsFirst (room : List Int) (rs : List Bw) (am : List Int) (b e : Int) : Option Int → Prop
  | none => ∀ t, b ≤ t → t < e → moreAt room rs am t = false
  | some t => b ≤ t ∧ t < e ∧ moreAt room rs am t = true ∧ ∀ u, b ≤ u → u < t → moreAt room rs am u = false
theorem isFirst_uniq {room : List Int} {rs : List Bw} {am : List Int} {b e : Int} : ∀ {f g : Option Int}, IsFirst room rs am b e f → IsFirst room rs am b e g → f = g
  | none, none, _, _ => rfl
  | none, some t, h, ⟨h1, h2, h3, _⟩ => by rw [h t h1 h2] at h3; cases h3
  | some t, none, ⟨h1, h2, h3, _⟩, h => by rw [h t h1 h2] at h3; cases h3
  | some t, some u, ⟨h1, h2, h3, h4⟩, ⟨g1, g2, g3, g4⟩ => by
    have a : ¬ t < u := fun z => by rw [g4 t h1 z] at h3; cases h3
    have b : ¬ u < t := fun z => by rw [h4 u g1 z] at g3; cases g3
    rw [show t = u by omega]
theorem greatest : ∀ {L : List Int} {t : Int}, (∃ v ∈ L, v ≤ t) → ∃ u ∈ L, u ≤ t ∧ ∀ v ∈ L, v ≤ t → v ≤ u
  | [], _, ⟨_, h, _⟩ => nomatch h
  | x :: L, t, ⟨v, hv, hle⟩ => by
    by_cases ex : ∃ v ∈ L, v ≤ t
    · obtain ⟨u, hu, h1, h2⟩ := greatest ex
      by_cases c : x ≤ t ∧ u < x
      · refine ⟨x, List.mem_cons_self, c.1, fun y hy hle => ?_⟩
        rcases List.mem_cons.mp hy with z | z
        · omega
        · have := h2 y z hle
          omega
      · refine ⟨u, List.mem_cons_of_mem _ hu, h1, fun y hy hle => ?_⟩
        rcases List.mem_cons.mp hy with z | z
        · omega
        · exact h2 y z hle
    · have e : v = x := by
        rcases List.mem_cons.mp hv with z | z
        · exact z
        · exact absurd ⟨v, z, hle⟩ ex
      refine ⟨x, List.mem_cons_self, by omega, fun y hy hle => ?_⟩
      rcases List.mem_cons.mp hy with z | z
      · omega
      · exact absurd ⟨y, z, hle⟩ ex
theorem find_first {p : Int → Bool} : ∀ {L : List Int} {t : Int}, L.Pairwise (· ≤ ·) → L.find? p = some t → ∀ v ∈ L, v < t → p v = false
  | x :: L, t, so, h, v, hv, lt => by
    rw [List.pairwise_cons] at so
    cases e : p x with
    | true =>
      rw [List.find?_cons_of_pos e] at h
      cases h
      rcases List.mem_cons.mp hv with z | z
      · omega
      · have := so.1 v z
        omega
    | false =>
      rw [List.find?_cons_of_neg (by rw [e]; exact Bool.false_ne_true)] at h
      rcases List.mem_cons.mp hv with z | z
      · rw [z]
        exact e
      · exact find_first so.2 h v z lt
theorem scan {p : Int → Bool} {L : List Int} {lo e : Int} (so : L.Pairwise (· ≤ ·)) (same : ∀ u t, u ∈ L → u ≤ t → lo ≤ t → t < e → (∀ v ∈ L, v ≤ t → v ≤ u) → p t = p u) (low : ∃ v ∈ L, v ≤ lo) :
    match L.find? p with
    | none => ∀ t, lo ≤ t → t < e → p t = false
    | some t => ∀ u, lo ≤ u → u < t → u < e → p u = false := by
  have get : ∀ t, lo ≤ t → t < e → ∃ u ∈ L, u ≤ t ∧ p t = p u := fun t h1 h2 => by
    obtain ⟨v, hv, hle⟩ := low
    obtain ⟨u, hu, g1, g2⟩ := greatest (L := L) (t := t) ⟨v, hv, by omega⟩
    exact ⟨u, hu, g1, same u t hu g1 h1 h2 g2⟩
  cases h : L.find? p with
  | none =>
    intro t h1 h2
    obtain ⟨u, hu, g1, g2⟩ := get t h1 h2
    rw [g2]
    have := List.find?_eq_none.mp h u hu
    simpa using this
  | some t =>
    intro u h1 h2 h3
    obtain ⟨v, hv, g1, g2⟩ := get u h1 h3
    rw [g2]
    exact find_first so h v hv (by omega)
/-- as the book looks for it: ss the others and the new one -/
theorem first_book {room : List Int} {rs ss : List Bw} {am : List Int} {lo e : Int} {ks : List Int} (hl : am.length = room.length) (sr : Srt ss ks) (inn : ∀ t, lo ≤ t → t < e → ∀ j, col j ss t = col j rs t + am.getD j 0) (out : ∀ t, ¬ (lo ≤ t ∧ t < e) → Fits room ss t) (low : ∃ v ∈ ks, v ≤ lo) :
    IsFirst room rs am lo e (ks.find? (ovr room.length ss room)) := by
  have eq : ∀ t, lo ≤ t → t < e → moreAt room rs am t = ovr room.length ss room t := fun t h1 h2 => by
    rw [Bool.eq_iff_iff, ← Bool.not_eq_false, ← Bool.not_eq_false, more_fits hl, ovr_fits]
    unfold Fits
    simp only [inn t h1 h2]
  have ovc : ∀ u t, (∀ j, col j ss t = col j ss u) → ovr room.length ss room t = ovr room.length ss room u := fun u t h => by
    rw [Bool.eq_iff_iff, ← Bool.not_eq_false, ← Bool.not_eq_false, ovr_fits, ovr_fits]
    unfold Fits
    simp only [h]
  have sc := scan (p := ovr room.length ss room) (lo := lo) (e := e) (sr.1.imp fun h => Int.le_of_lt h) (fun u t hu h1 h2 h3 h4 => ovc u t fun j => col_const h1 fun x hx =>
    ⟨fun z => h4 _ ((sr.2 _).mpr ⟨x, hx, .inl rfl⟩) z, fun z => h4 _ ((sr.2 _).mpr ⟨x, hx, .inr rfl⟩) z⟩) low
  cases h : ks.find? (ovr room.length ss room) with
  | none =>
    rw [h] at sc
    exact fun t h1 h2 => by rw [eq t h1 h2]; exact sc t h1 h2
  | some t =>
    rw [h] at sc
    have m := List.find?_some h
    have dm : lo ≤ t ∧ t < e := by
      by_cases c : lo ≤ t ∧ t < e
      · exact c
      · rw [ovr_fits.mpr (out t c)] at m
        cases m
    exact ⟨dm.1, dm.2, by rw [eq t dm.1 dm.2]; exact m, fun u h1 h2 => by rw [eq u h1 (by omega)]; exact sc u h1 h2 (by omega)⟩
end My
namespace My
open PySem PySem.W PySem.Spec PyProof.Rows L2 GX GxR
/-! deeds -/
inductive Deed where
  | put (x : Bw)
  | cut (z : Str) (t : Int)
  | stretch (z : Str) (t : Int)
  | drop (z : Str)
  | past (t : Int)
inductive Out where
  | no
  | time (t : Int)
  | keys (zs : List Str)
abbrev keysB (rs : List Bw) : List Str := rs.map (·.key)
def KeptR (rs : List Bw) (x : Bw) : Option Int → Str → Out → List Bw → Prop
  | some t, w, o, rs' => w = "TooMuch" ∧ o = .time t ∧ rs' = rs
  | none, w, o, rs' => w = "told" ∧ o = .no ∧ rs' = putR rs x
/-- texts in order -/
def Pw (zs : List Str) : Prop := zs.Pairwise fun a b => a.cps.toList ≤ b.cps.toList
theorem pw_uniq {xs ys : List Str} (p : xs.Perm ys) (hx : Pw xs) (hy : Pw ys) : xs = ys :=
  uniq_sorted (le := fun a b : Str => decide (a.cps.toList ≤ b.cps.toList)) p (hx.imp fun z => decide_eq_true z) (hy.imp fun z => decide_eq_true z) fun a _ b _ q1 q2 => str_ext (List.le_antisymm (of_decide_eq_true q1) (of_decide_eq_true q2))
/-- what a deed comes to: a word, what is told, the entries behind it -/
def DueR (room : List Int) (rs : List Bw) : Deed → Str → Out → List Bw → Prop
  | .put x, w, o, rs' => (x.key ∈ keysB rs ∧ w = "Taken" ∧ o = .no ∧ rs' = rs) ∨ (x.key ∉ keysB rs ∧ ∃ f, IsFirst room rs x.am x.b x.e f ∧ KeptR rs x f w o rs')
  | .cut z t, w, o, rs' => (z ∉ keysB rs ∧ w = "NoKey" ∧ o = .no ∧ rs' = rs) ∨ ∃ x ∈ rs, x.key = z ∧ w = "told" ∧ o = .no ∧ rs' = (if t ≤ x.b then rs.filter fun y => decide (y.key ≠ z) else if t < x.e then putR rs ⟨x.key, x.b, t, x.am⟩ else rs)
  | .stretch z e, w, o, rs' => (z ∉ keysB rs ∧ w = "NoKey" ∧ o = .no ∧ rs' = rs) ∨ ∃ x ∈ rs, x.key = z ∧ ((x.e < e ∧ ∃ f, IsFirst room rs x.am x.e e f ∧ KeptR rs ⟨x.key, x.b, e, x.am⟩ f w o rs') ∨ (¬ x.e < e ∧ w = "told" ∧ o = .no ∧ rs' = rs))
  | .drop z, w, o, rs' => (z ∉ keysB rs ∧ w = "NoKey" ∧ o = .no ∧ rs' = rs) ∨ (z ∈ keysB rs ∧ w = "told" ∧ o = .no ∧ rs' = rs.filter fun y => decide (y.key ≠ z))
  | .past t, w, o, rs' => ∃ zs, zs.Perm ((rs.filter fun x => decide (x.e ≤ t)).map (·.key)) ∧ Pw zs ∧ w = "told" ∧ o = .keys zs ∧ rs' = rs.filter (lateB t)
theorem key_mem {rs : List Bw} {x : Bw} (h : x ∈ rs) : x.key ∈ keysB rs := List.mem_map.mpr ⟨x, h, rfl⟩
/-- entries as they may stand: their keys of Z, in the room at all times -/
structure BGood (Z : List Str) (room : List Int) (rs : List Bw) : Prop where
  nd : (rs.map (·.key)).Nodup
  lt : ∀ x ∈ rs, x.b < x.e
  len : ∀ x ∈ rs, x.am.length = room.length
  nn : NN rs
  tm : ∀ x ∈ rs, 0 ≤ x.b ∧ x.e ≤ 2000000000
  fit : ∀ t, Fits room rs t
  key : ∀ x ∈ rs, x.key ∈ Z
def DeedOk (Z : List Str) (room : List Int) : Deed → Prop
  | .put x => x.b < x.e ∧ x.am.length = room.length ∧ (∀ n ∈ x.am, (0 : Int) ≤ n) ∧ 0 ≤ x.b ∧ x.e ≤ 2000000000 ∧ x.key ∈ Z
  | .cut z _ => z.length ≤ 100
  | .stretch z t => z.length ≤ 100 ∧ t ≤ 2000000000
  | .drop z => z.length ≤ 100
  | .past _ => True
theorem BGood.nil {Z : List Str} {room : List Int} (h : ∀ n ∈ room, 0 ≤ n) : BGood Z room [] := ⟨.nil, fun _ h => (nomatch h), fun _ h => (nomatch h), fun _ h => (nomatch h), fun _ h => (nomatch h), fun t j hj => getD_nn h j, fun _ h => (nomatch h)⟩
theorem BGood.filter {Z : List Str} {room : List Int} {rs : List Bw} (g : BGood Z room rs) (p : Bw → Bool) : BGood Z room (rs.filter p) := by
  have sub : (rs.filter p).Sublist rs := List.filter_sublist
  exact ⟨g.nd.sublist (sub.map _), fun x h => g.lt x (sub.subset h), fun x h => g.len x (sub.subset h), fun x h => g.nn x (sub.subset h), fun x h => g.tm x (sub.subset h), fun t j hj => Int.le_trans (col_filter g.nn).1 (g.fit t j hj), fun x h => g.key x (sub.subset h)⟩
theorem putR_new {rs : List Bw} {x : Bw} (h : x.key ∉ keysB rs) : putR rs x = rs ++ [x] := by
  unfold putR
  rw [if_neg h]
/-- an entry set anew: the others and it -/
theorem putR_perm {x y : Bw} (e : x.key = y.key) : ∀ {rs : List Bw}, (rs.map (·.key)).Nodup → y ∈ rs → (putR rs x).Perm (rs.filter (fun z => decide (z.key ≠ x.key)) ++ [x]) := by
  intro rs nd hy
  have hk : x.key ∈ rs.map (·.key) := e ▸ key_mem hy
  unfold putR
  rw [if_pos hk]
  clear hy
  induction rs with
  | nil => cases hk
  | cons a rs ih =>
    rw [List.map_cons, List.nodup_cons] at nd
    rw [List.map_cons, List.filter_cons]
    by_cases c : a.key = x.key
    · rw [if_pos c, if_neg (by rw [decide_eq_true_eq]; exact fun q => q c)]
      have no : x.key ∉ rs.map (·.key) := by rw [← c]; exact nd.1
      have e1 : rs.map (fun z => if z.key = x.key then x else z) = rs := by
        rw [List.map_congr_left (g := fun z => z) fun z hz => if_neg fun q => no (List.mem_map.mpr ⟨z, hz, q⟩)]
        exact List.map_id' _
      have e2 : rs.filter (fun z => decide (z.key ≠ x.key)) = rs := List.filter_eq_self.mpr fun z hz => decide_eq_true fun q => no (List.mem_map.mpr ⟨z, hz, q⟩)
      rw [e1, e2]
      exact (List.perm_append_singleton x rs).symm
    · rw [if_neg c, if_pos (decide_eq_true c)]
      refine List.Perm.cons a (ih nd.2 ?_)
      rw [List.map_cons] at hk
      rcases List.mem_cons.mp hk with z | z
      · exact absurd z.symm c
      · exact z
theorem self_perm {y : Bw} : ∀ {rs : List Bw}, (rs.map (·.key)).Nodup → y ∈ rs → rs.Perm (rs.filter (fun z => decide (z.key ≠ y.key)) ++ [y]) := by
  intro rs nd hy
  have h := putR_perm (x := y) (y := y) rfl nd hy
  have e : putR rs y = rs := by
    unfold putR
    rw [if_pos (key_mem hy)]
    rw [List.map_congr_left (g := fun z => z) fun z hz => ?_]
    · exact List.map_id' _
    · show (if z.key = y.key then y else z) = z
      split
      · rename_i q
        exact (nodup_inj nd z hz y hy q).symm
      · rfl
  rw [e] at h
  exact h
theorem BGood.put {Z : List Str} {room : List Int} {rs : List Bw} {x : Bw} (g : BGood Z room rs) (h1 : x.b < x.e) (h2 : x.am.length = room.length) (h3 : ∀ n ∈ x.am, (0 : Int) ≤ n) (h4 : 0 ≤ x.b ∧ x.e ≤ 2000000000) (h5 : x.key ∈ Z) (fit : ∀ t, Fits room (putR rs x) t) : BGood Z room (putR rs x) := by
  have mem : ∀ {P : Bw → Prop}, (∀ y ∈ rs, P y) → P x → ∀ y ∈ putR rs x, P y := fun {P} a b y hy => by
    rcases putR_mem hy with z | z
    · exact a y z
    · rw [z]
      exact b
  exact ⟨putR_nd g.nd, mem g.lt h1, mem g.len h2, mem g.nn h3, mem g.tm h4, fit, mem g.key h5⟩
theorem live_in {x : Bw} {t : Int} : liveAt t x = true ↔ x.b ≤ t ∧ t < x.e := by
  unfold liveAt
  exact decide_eq_true_iff
/-- an entry put, or set anew to a later end -/
theorem fit_new {room : List Int} {rs : List Bw} {x : Bw} (hl : x.am.length = room.length) (fit : ∀ t, Fits room rs t) (hk : x.key ∉ keysB rs) (f : IsFirst room rs x.am x.b x.e none) : ∀ t, Fits room (putR rs x) t := fun t j hj => by
  rw [putR_new hk, col_snoc]
  split
  · rename_i c
    obtain ⟨c1, c2⟩ := live_in.mp c
    exact (more_fits hl).mp (f t c1 c2) j hj
  · have := fit t j hj
    omega
theorem fit_long {room : List Int} {rs : List Bw} {x : Bw} {e : Int} (hl : x.am.length = room.length) (nd : (rs.map (·.key)).Nodup) (hx : x ∈ rs) (lt : x.b < x.e) (hlt : x.e < e) (fit : ∀ t, Fits room rs t) (f : IsFirst room rs x.am x.e e none) : ∀ t, Fits room (putR rs ⟨x.key, x.b, e, x.am⟩) t := fun t j hj => by
  have p1 := putR_perm (x := ⟨x.key, x.b, e, x.am⟩) (y := x) rfl nd hx
  have p2 := self_perm nd hx
  have c0 := fit t j hj
  rw [← col_perm p2.symm t, col_snoc] at c0
  rw [← col_perm p1.symm t, col_snoc]
  have e0 : liveAt t (⟨x.key, x.b, e, x.am⟩ : Bw) = true ↔ x.b ≤ t ∧ t < e := live_in
  by_cases c : x.e ≤ t ∧ t < e
  · have m := (more_fits hl).mp (f t c.1 c.2) j hj
    rw [← col_perm p2.symm t, col_snoc, if_neg (by rw [live_in]; omega)] at m
    rw [if_pos (e0.mpr ⟨by omega, c.2⟩)]
    show col j (rs.filter fun z => decide (z.key ≠ x.key)) t + x.am.getD j 0 ≤ _
    omega
  · by_cases d : x.b ≤ t ∧ t < x.e
    · rw [if_pos (live_in.mpr d)] at c0
      rw [if_pos (e0.mpr ⟨d.1, by omega⟩)]
      exact c0
    · rw [if_neg (by rw [live_in]; exact d)] at c0
      rw [if_neg (by rw [e0]; omega)]
      exact c0
theorem fit_short {room : List Int} {rs : List Bw} {x : Bw} {t' : Int} (nn : NN rs) (nd : (rs.map (·.key)).Nodup) (hx : x ∈ rs) (hlt : t' < x.e) (fit : ∀ t, Fits room rs t) : ∀ t, Fits room (putR rs ⟨x.key, x.b, t', x.am⟩) t := fun t j hj => by
  have p1 := putR_perm (x := ⟨x.key, x.b, t', x.am⟩) (y := x) rfl nd hx
  have p2 := self_perm nd hx
  have c0 := fit t j hj
  rw [← col_perm p2.symm t, col_snoc] at c0
  rw [← col_perm p1.symm t, col_snoc]
  have e0 : liveAt t (⟨x.key, x.b, t', x.am⟩ : Bw) = true ↔ x.b ≤ t ∧ t < t' := live_in
  have n0 := getD_nn (nn x hx) j
  by_cases d : x.b ≤ t ∧ t < t'
  · rw [if_pos (live_in.mpr ⟨d.1, by omega⟩)] at c0
    rw [if_pos (e0.mpr d)]
    exact c0
  · rw [if_neg (by rw [e0]; exact d)]
    show col j (rs.filter fun z => decide (z.key ≠ x.key)) t + 0 ≤ _
    split at c0 <;> omega
theorem BGood.due {Z : List Str} {room : List Int} {rs rs' : List Bw} {d : Deed} {w : Str} {o : Out} (g : BGood Z room rs) (ok : DeedOk Z room d) (h : DueR room rs d w o rs') : BGood Z room rs' := by
  cases d with
  | put x =>
    obtain ⟨k1, k2, k3, k4, k5, k6⟩ := ok
    rcases h with ⟨_, _, _, e⟩ | ⟨a, f, hf, hk⟩
    · rw [e]; exact g
    · cases f with
      | some t => rw [hk.2.2]; exact g
      | none =>
        rw [hk.2.2]
        exact g.put k1 k2 k3 ⟨k4, k5⟩ k6 (fit_new k2 g.fit a hf)
  | cut z t =>
    rcases h with ⟨_, _, _, e⟩ | ⟨x, hx, ex, _, _, e⟩
    · rw [e]; exact g
    · rw [e]
      split
      · exact g.filter _
      · split
        · rename_i n1 n2
          have tm := g.tm x hx
          exact g.put (x := ⟨x.key, x.b, t, x.am⟩) (by show x.b < t; omega) (g.len x hx) (g.nn x hx) ⟨tm.1, by show t ≤ 2000000000; omega⟩ (g.key x hx) (fit_short g.nn g.nd hx n2 g.fit)
        · exact g
  | stretch z t =>
    rcases h with ⟨_, _, _, e⟩ | ⟨x, hx, ex, ⟨a, f, hf, hk⟩ | ⟨_, _, _, e⟩⟩
    · rw [e]; exact g
    · cases f with
      | some t => rw [hk.2.2]; exact g
      | none =>
        rw [hk.2.2]
        have tm := g.tm x hx
        have lt := g.lt x hx
        exact g.put (x := ⟨x.key, x.b, t, x.am⟩) (by show x.b < t; omega) (g.len x hx) (g.nn x hx) ⟨tm.1, ok.2⟩ (g.key x hx) (fit_long (g.len x hx) g.nd hx lt a g.fit hf)
    · rw [e]; exact g
  | drop z =>
    rcases h with ⟨_, _, _, e⟩ | ⟨_, _, _, e⟩
    · rw [e]; exact g
    · rw [e]; exact g.filter _
  | past t =>
    obtain ⟨ss, _, _, _, _, e⟩ := h
    rw [e]
    exact g.filter _
/-! as the book looks for it -/
theorem first_put {room : List Int} {rs : List Bw} {x : Bw} {ks : List Int} (hl : x.am.length = room.length) (lt : x.b < x.e) (fit : ∀ t, Fits room rs t) (hk : x.key ∉ keysB rs) (sr : Srt (withX rs x) ks) : IsFirst room rs x.am x.b x.e (ks.find? (ovr room.length (withX rs x) room)) := by
  have e : withX rs x = rs ++ [x] := by
    unfold withX
    have e1 : rs.filter (fun y => decide (y.key ≠ x.key)) = rs := List.filter_eq_self.mpr fun y hy => decide_eq_true fun q => hk (by rw [← q]; exact key_mem hy)
    rw [e1]
  refine first_book hl sr (fun t h1 h2 j => ?_) (fun t h j hj => ?_) ⟨x.b, (sr.2 _).mpr ⟨x, by rw [e]; exact List.mem_append.mpr (.inr (List.mem_singleton.mpr rfl)), .inl rfl⟩, Int.le_refl _⟩
  · rw [e, col_snoc, if_pos (live_in.mpr ⟨h1, h2⟩)]
  · rw [e, col_snoc, if_neg (by rw [live_in]; exact h)]
    have := fit t j hj
    omega
end My
namespace My
open PySem PySem.W PySem.Spec PyProof.Rows L2 GX GxR
/-! what is left over: by the law's times, by the book's stretches -/
def leftTs (room : List Int) (rs : List Bw) (ts : List Int) : List Int := ts.foldl (fun acc t => List.zipWith minI acc (lessL room (netB room.length rs t))) room
def valJ (room : List Int) (rs : List Bw) (j : Nat) (t : Int) : Int := room.getD j 0 - col j rs t
theorem zw_getD {f : Int → Int → Int} {xs ys : List Int} {j : Nat} (h1 : j < xs.length) (h2 : j < ys.length) : (List.zipWith f xs ys).getD j 0 = f (xs.getD j 0) (ys.getD j 0) := by
  rw [List.getD_eq_getElem?_getD, List.getElem?_zipWith, List.getElem?_eq_getElem h1, List.getElem?_eq_getElem h2, List.getD_eq_getElem?_getD, List.getD_eq_getElem?_getD, List.getElem?_eq_getElem h1, List.getElem?_eq_getElem h2]
  rfl
theorem less_col {room : List Int} {rs : List Bw} {t : Int} {j : Nat} (h : j < room.length) : (lessL room (netB room.length rs t)).getD j 0 = valJ room rs j t := by
  unfold lessL valJ
  rw [zw_getD h (by rw [netB_len]; exact h), net_col h]
theorem less_len2 {room : List Int} {rs : List Bw} {t : Int} : (lessL room (netB room.length rs t)).length = room.length := by
  unfold lessL
  rw [List.length_zipWith, netB_len, Nat.min_self]
theorem fold_col {α : Type} {w : Nat} {f : α → List Int} (hf : ∀ a, (f a).length = w) {j : Nat} (hj : j < w) : ∀ (l : List α) (acc : List Int), acc.length = w →
    (l.foldl (fun acc a => List.zipWith minI acc (f a)) acc).length = w ∧ (l.foldl (fun acc a => List.zipWith minI acc (f a)) acc).getD j 0 = l.foldl (fun x a => minI x ((f a).getD j 0)) (acc.getD j 0)
  | [], acc, h => ⟨h, rfl⟩
  | a :: l, acc, h => by
    have h1 : (List.zipWith minI acc (f a)).length = w := by rw [List.length_zipWith, h, hf, Nat.min_self]
    obtain ⟨i1, i2⟩ := fold_col hf hj l _ h1
    refine ⟨i1, ?_⟩
    rw [List.foldl_cons, List.foldl_cons, i2, zw_getD (by omega) (by rw [hf]; exact hj)]
theorem minI_le {a b : Int} : minI a b ≤ a ∧ minI a b ≤ b ∧ (minI a b = a ∨ minI a b = b) := by
  unfold minI
  split
  · exact ⟨by omega, Int.le_refl _, .inr rfl⟩
  · exact ⟨Int.le_refl _, by omega, .inl rfl⟩
theorem min_fold {α : Type} {g : α → Int} : ∀ (l : List α) (x : Int), l.foldl (fun x a => minI x (g a)) x ≤ x ∧ (∀ a ∈ l, l.foldl (fun x a => minI x (g a)) x ≤ g a) ∧ (l.foldl (fun x a => minI x (g a)) x = x ∨ ∃ a ∈ l, l.foldl (fun x a => minI x (g a)) x = g a)
  | [], x => ⟨Int.le_refl _, fun _ h => (nomatch h), .inl rfl⟩
  | a :: l, x => by
    obtain ⟨h1, h2, h3⟩ := min_fold (g := g) l (minI x (g a))
    obtain ⟨m1, m2, m3⟩ := minI_le (a := x) (b := g a)
    rw [List.foldl_cons]
    refine ⟨Int.le_trans h1 m1, fun b hb => ?_, ?_⟩
    · rcases List.mem_cons.mp hb with z | z
      · rw [z]
        exact Int.le_trans h1 m2
      · exact h2 b z
    · rcases h3 with h3 | ⟨b, hb, h3⟩
      · rcases m3 with m3 | m3
        · exact .inl (h3.trans m3)
        · exact .inr ⟨a, List.mem_cons_self, h3.trans m3⟩
      · exact .inr ⟨b, List.mem_cons_of_mem _ hb, h3⟩
end My
set_option maxHeartbeats 1000000
/-! sorted of a list of data of any kind -/
namespace SX
open PySem PySem.W PySem.Spec PyProof.Rows L2
def dLe (x y : V × PyData) : Bool := dataLe false (fun b : V × PyData => b.2) x y
section
variable {X : Cx}
theorem each_rel : ∀ {bs : List (V × PyData)} {us : List Value}, Vals (bs.map (·.1)) us → EachIs (fun (v : Value) (b : V × PyData) => RelV b.1 v) us bs
  | [], us, r => by cases r; exact .nil
  | z :: ys, us, r => by cases r with | cons r t => exact .cons r (each_rel t)
theorem vals_rel {us : List Value} {ys : List (V × PyData)} (e : EachIs (fun (v : Value) (b : V × PyData) => RelV b.1 v) us ys) : Vals (ys.map (·.1)) us := by
  induction e with
  | nil => exact .nil
  | cons r t ih => exact .cons r ih
theorem each_and {α β : Type} {R : α → β → Prop} {S : β → Prop} {as : List α} {bs : List β} (e : EachIs R as bs) : (∀ b ∈ bs, S b) → EachIs (fun a b => R a b ∧ S b) as bs := by
  induction e with
  | nil => exact fun _ => .nil
  | cons r t ih => exact fun h => .cons ⟨r, h _ List.mem_cons_self⟩ (ih fun b hb => h b (List.mem_cons_of_mem _ hb))
/-- tuples with a text ahead stand in the order of their texts -/
theorem dLe_str {x y : V × PyData} {a b : Str} {r r' : List PyData} (hx : x.2 = .tuple (.str a :: r)) (hy : y.2 = .tuple (.str b :: r')) (h : dLe x y = true) : ltCps b.cps.toList a.cps.toList = false := by
  unfold dLe dataLe sortLe at h
  have h : (!lexLt itemOrd (keyToks y.2) (keyToks x.2)) = true := h
  rw [hx, hy] at h
  have h : (!lexLt itemOrd (.inl 1 :: .inr b.cps.toList :: keyToksAll r') (.inl 1 :: .inr a.cps.toList :: keyToksAll r)) = true := h
  simp only [PyProof.Rows.lexLt] at h
  have h : (!(itemLt (.inl 1) (.inl 1) || (!itemLt (.inl 1) (.inl 1) && (itemLt (.inr b.cps.toList) (.inr a.cps.toList) || (!itemLt (.inr a.cps.toList) (.inr b.cps.toList) && lexLt itemOrd (keyToksAll r') (keyToksAll r)))))) = true := h
  cases e : itemLt (.inr b.cps.toList) (.inr a.cps.toList) with
  | false =>
    have e2 : dataLt (PyData.str b) (PyData.str a) = false := by
      show lexLt itemOrd [.inr b.cps.toList] [.inr a.cps.toList] = false
      simp only [PyProof.Rows.lexLt]
      show (itemLt (.inr b.cps.toList) (.inr a.cps.toList) || (!itemLt (.inr a.cps.toList) (.inr b.cps.toList) && false)) = false
      rw [e, Bool.and_false]
      rfl
    rw [dataLt_str, lt_meets] at e2
    exact e2
  | true =>
    rw [e] at h
    simp [itemLt] at h
end
end SX
set_option maxHeartbeats 1000000
/-! sorted of a tuple of data: as of a list (the model collects both the same way) -/
namespace SX
open PySem PySem.W PySem.Spec PyProof.Rows L2
section
variable {prog : Program} {w : World} {A : Around} {E : Value → Shared → Prop} {s : Shared}
theorem collect_tup {l : Addr} {vs : List Value} {Q : List Value → Shared → Prop} (hl : IsTup s.heap l vs.toArray) (hsz : vs.length ≤ sizeLine)
    (h : Q vs { s with heap := (s.heap.push (seqObj "list" #[] 0)).update s.heap.objs.size (Obj.mapSeq (· ++ vs.toArray)) }) : wpAny (model prog w) A (collect (.ref l)) Q E s := by
  obtain ⟨o, ho, hc, n, hd⟩ := id hl
  unfold collect
  refine wpAny_bind (wpAny_runValue (codeAny_builtin F.entry_proto_collect ?_))
  show wpAny _ _ (do again (.builtin "list.__iadd__" ⟨[← newList [], .ref l], []⟩)) _ _ s
  refine wpAny_bind (wpAny_newList (wpAny_pure ⟨plainId_quiet F.plain_list_iadd _, codeAny_builtin F.entry_list_iadd ?_⟩))
  show wpAny _ _ (Builtin.List.listExtendWith (.ref s.heap.objs.size) (.ref l) (.ref s.heap.objs.size)) _ _ { s with heap := s.heap.push (seqObj "list" #[] 0) }
  unfold Builtin.List.listExtendWith
  have ho' : (s.heap.push (seqObj "list" #[] 0)).get? l = some o := Heap.get?_push_of_some _ ho
  refine wpAny_bind (wpAny_typeOf (T := "tuple") ⟨o, ho', hc⟩ ?_)
  rw [if_pos (by simp)]
  refine wpAny_bind (listItems_at ho' hd (wpAny_bind (listItems_at (xs := #[]) (n := 0) (Heap.get?_push_size _ rfl) rfl ?_)))
  rw [if_neg (by simp)]
  refine wpAny_bind (listUpdate_at (xs := #[]) (n := 0) (Heap.get?_push_size _ rfl) rfl (wpAny_pure ?_) (Nat.zero_le _) (by show (#[] ++ vs.toArray).size ≤ sizeLine + 1; simp only [Array.size_append, List.size_toArray, List.length_nil]; omega))
  show wpAny (model prog w) A (do
      let o ← load s.heap.objs.size
      match o.data with
      | .seq xs _ => pure xs.toList
      | _ => unsupported "internal:collect") Q E { s with heap := (s.heap.push (seqObj "list" #[] 0)).update s.heap.objs.size (Obj.mapSeq (· ++ vs.toArray)) }
  refine wpAny_bind (wpAny_load (get?_update_seq (Heap.get?_push_size _ rfl) _) ?_)
  show wpAny _ _ (pure ((#[] : Array Value) ++ vs.toArray).toList) Q E _
  rw [show ((#[] : Array Value) ++ vs.toArray).toList = vs by simp]
  exact wpAny_pure h
theorem sortedT_data {α : Type} {R : Value → α → Prop} {enc : α → PyData} {bs : List α} {vs : List Value} {l : Addr} {Q : Value → Shared → Prop} (hl : IsTup s.heap l vs.toArray) (e : EachIs R vs bs) (er : EachIs (fun v b => ∃ as, Reads s.heap v (enc b) as) vs bs) (hal : AllAlike (bs.map enc)) (hk : Sortable (bs.map enc)) (hL : bs.length ≤ sizeLine)
    (hu : ∀ b, b ∈ bs → A.units + 2 + (enc b).depth < cLine) (h : ∀ out, out.length = bs.length → EachIs R out (bs.mergeSort (dataLe false enc)) → Q (.ref (s.heap.objs.size + 1)) { s with heap := sortedAll s.heap vs (List.toArray out) }) :
    wpAny (model prog w) A (call (.builtin "sorted") [.ref l]) Q E s := by
  have er' : EachIs (fun v b => ∃ as, Reads (sortingHeap (copyHeap s.heap vs) (s.heap.objs.size + 1) vs) v (enc b) as) vs bs := er.mono fun _ _ ⟨as, r⟩ => ⟨as, PyProof.Rows.Reads.keeps (fun _ _ => sorting_copy_old) r⟩
  have hL' : vs.length ≤ sizeLine := by rw [e.length]; exact hL
  refine Calls.call_function_entry kind_sorted plain_sorted entry_sorted (args_sorted1 _) ?_
  unfold Builtin.«sorted»
  refine wpAny_bind (m := checkCount "sorted" 1 1 _) (wpAny_pure ?_)
  refine wpAny_bind (collect_tup hl hL' (wpAny_bind (wpAny_newList ?_ hL')))
  have hsz : ((s.heap.push (seqObj "list" #[] 0)).update s.heap.objs.size (Obj.mapSeq (· ++ vs.toArray))).objs.size = s.heap.objs.size + 1 := by rw [Heap.size_update, size_push']
  show wpAny _ _ _ _ _ { s with heap := copyHeap s.heap vs }
  rw [hsz]
  refine wpAny_bind (wpAny_holding (wpAny_call_entry slot_list_sort ⟨_, copyHeap_at s.heap vs, rfl⟩ entry_list_sort ?_ (args_list_sort _)))
  have S := SortsAt.data (prog := prog) (w := w) (A := A.in1.in1) (s := { s with heap := sortingHeap (copyHeap s.heap vs) (s.heap.objs.size + 1) vs }) (each_map (R := fun v d => ∃ as, Reads (sortingHeap (copyHeap s.heap vs) (s.heap.objs.size + 1) vs) v d as) enc er') hal hk (bound_map hu)
  refine wpAny_mono (list_sort_vals (P := fun f s' => f = .done (.ret .none) ∧ Q (.ref (s.heap.objs.size + 1)) s') (s := { s with heap := copyHeap s.heap vs }) (copyHeap_at s.heap vs) S hL' ⟨rfl, h _ (by rw [sortVals_length false rfl]; exact e.length) (sortVals_data false e er' hal)⟩) (fun f s' hf => ?_) fun _ _ e => e
  obtain ⟨rfl, hq⟩ := hf
  exact ⟨_, rfl, wpAny_pure ⟨_, rfl, hq⟩⟩
end
section
variable {X : Cx}
def rSortDtT (K : PySem.W.Frag) : List V → Hp → VK → Prop := fun vs H Q => ∃ (a : Addr) (bs : List (V × PyData)), vs = [V.ref a] ∧ SqT K H a (bs.map (·.1)) ∧ (∀ b ∈ bs, Dp K H b.1 b.2 ∧ b.2.depth ≤ 50) ∧ AllAlike (bs.map (·.2)) ∧ Sortable (bs.map (·.2)) ∧
  ∀ (cs : List (V × PyData)) (p : Addr), cs.Perm bs → cs.Pairwise (fun x y => dLe x y = true) → H p = none → Q (.ref p) (upd H p (.lst (cs.map (·.1))))
theorem cr_sortDtT (hu : X.A.units + 64 < cLine) : CallR X (.builtin "sorted") (rSortDtT X.K) := by
  intro pins s σ H vs us Q I r h
  obtain ⟨a, bs, rfl, hs, hd, hal, hso, q⟩ := h
  obtain ⟨its, rv, hl, hz⟩ := I.tuple hs
  rw [Vals.ref1 r]
  have ea := each_rel rv
  refine sortedT_data (enc := fun b : V × PyData => b.2) hl ea ((each_and ea hd).mono fun v b h => ?_) hal hso (by rw [List.length_map] at hz; exact hz) (fun b hb => ?_) fun out ho eo => ?_
  · exact Dp.reads I b.2 b.1 v h.2.1 h.1
  · have := (hd b hb).2
    show X.A.units + 2 + b.2.depth < cLine
    omega
  obtain ⟨ep, at1⟩ := sortedAll_at s.heap its out.toArray
  have tl := sortLe_total (listOrd itemOrd) false fun b : V × PyData => keyToks b.2
  refine ⟨.ref _, upd H (s.heap.objs.size + 1) (.lst ((bs.mergeSort (dataLe false fun b : V × PyData => b.2)).map (·.1))), I.laid (t' := s.toks) (fun _ _ => sortedAll_old) (Nat.le_succ _) ⟨?_, out, ep, vals_rel eo, at1⟩, rfl,
    q _ _ (List.mergeSort_perm _ _) (List.pairwise_mergeSort (fun a b c => tl.trans a b c) (fun a b => by rw [Bool.or_eq_true]; exact tl.total a b) bs) (I.hok.fresh (Nat.le_succ _))⟩
  rw [List.length_map, List.length_mergeSort]
  rw [List.length_map] at hz
  exact hz
end
end SX
set_option maxHeartbeats 1000000
/-! estates: gangs booked -/
namespace My
open PySem PySem.W PySem.Spec PyProof.Rows L2 GX GxR
/-- the first time at which a book would bear too much with x -/
def OverP (room : List Int) (rs : List Bw) (x : Bw) (o : Option Int) : Prop := ∃ ks, Srt (withX rs x) ks ∧ ks.find? (ovr room.length (withX rs x) room) = o
/-- what a house bears for a gang -/
def xOf (z : Str) (b e : Int) (want : List Int) (n : Int) : Bw := ⟨z, b, e, want.map (· * n)⟩
def bookH (z : Str) (b e : Int) (want : List Int) (pl : List (Str × Int)) (h : Hm) : Hm :=
  match pl.find? fun q => decide (q.1 = h.name) with
  | some q => { h with es := h.es ++ [⟨xOf z b e want q.2, q.2⟩] }
  | none => h
/-- a gang that may be booked, but for room -/
structure Bkbl (M : List Hm) (z : Str) (b e : Int) (want : List Int) (pl : List (Str × Int)) : Prop where
  key : z.length ≤ 100
  lt : b < e
  bnd : b.natAbs.log2 < 1920 ∧ e.natAbs.log2 < 1920
  eb : ∀ h ∈ M, ∀ em ∈ h.es, em.x.b.natAbs.log2 < 1920 ∧ em.x.e.natAbs.log2 < 1920
  wl : ∀ h ∈ M, h.room.length = want.length
  few : ∀ h ∈ M, h.es.length < 100
  nd : (pl.map (·.1)).Nodup
  ne : pl ≠ []
  l60 : pl.length ≤ 60
  nm : ∀ q ∈ pl, q.1.length ≤ 100 ∧ PySem.PyData.strOk q.1 = true
  many : ∀ q ∈ pl, 0 ≤ q.2 ∧ q.2 ≤ 1000000000
  gangs : ∀ zs : List Str, zs.Nodup → (∀ y ∈ zs, Booked M y) → zs.length < 100
theorem prs_sorted {cs : List (V × (Str × Int))} (h : (cs.map fun p => (p.1, prD p.2)).Pairwise (fun x y => SX.dLe x y = true)) : sortedS ((cs.map (·.2)).map (·.1)) = true := by
  rw [List.pairwise_map] at h
  refine SX.sorted_of ?_
  rw [List.pairwise_map, List.pairwise_map]
  exact h.imp fun {a b} z => SX.dLe_str rfl rfl z
/-- a tuple of pairs, sorted -/
theorem sort_prs {K : PySem.W.Frag} {H : Hp} {Q : VK} {a : Addr} {us : List V} {ps : List (Str × Int)} (e : SqT K H a us) (h : PairVs H us ps) (q : ∀ l vs qs, qs.Perm ps → sortedS (qs.map (·.1)) = true → H l = none → PairVs H vs qs → Q (.ref l) (upd H l (.lst vs))) : SX.rSortDtT K [.ref a] H Q := by
  obtain ⟨zs, g1, g2, g3⟩ := h.zipped
  refine ⟨a, zs.map (fun r => (r.1, prD r.2)), rfl, ?_, fun b hb => ?_, fun d hd d' hd' => ?_, .inl fun d hd => ?_, fun cs p hperm hpw np => ?_⟩
  · rw [List.map_map]
    have e9 : zs.map ((fun b : V × PyData => b.1) ∘ fun r : V × (Str × Int) => (r.1, prD r.2)) = us := g1
    rw [e9]
    exact e
  · obtain ⟨r, hr', rfl⟩ := List.mem_map.mp hb
    obtain ⟨t, e1, e2⟩ := g3 r hr'
    refine ⟨?_, by show 1 ≤ 50; decide⟩
    show Dp K H r.1 (prD r.2)
    rw [e1]
    exact .tup (SqT.of e2) (.cons (.str _) (.cons (.int _) .nil))
  · rw [List.map_map] at hd hd'
    obtain ⟨r, hr', rfl⟩ := List.mem_map.mp hd
    obtain ⟨r', hr2, rfl⟩ := List.mem_map.mp hd'
    rfl
  · rw [List.map_map] at hd
    obtain ⟨r, hr', rfl⟩ := List.mem_map.mp hd
    exact ⟨_, _, rfl⟩
  obtain ⟨ws, wp, rfl⟩ := ST.perm_image hperm zs rfl
  have eL : (ws.map fun r => (r.1, prD r.2)).map (·.1) = ws.map (·.1) := by rw [List.map_map]; rfl
  rw [eL]
  refine q p (ws.map (·.1)) (ws.map (·.2)) ?_ (prs_sorted hpw) np (PairVs.of fun r hr' => g3 r (wp.mem_iff.mp hr'))
  rw [← g2]
  exact wp.map _
theorem rd_sameE {H H' : Hp} (s : Same H H') {p : Addr} {o : HO} (h : Rd H p o) : Rd H' p o := by
  rcases h with h | ⟨q, h⟩
  · exact .inl (s _ _ h)
  · exact .inr ⟨q, s _ _ h⟩
theorem rd_kpX {S : List Addr} {H H' : Hp} (k : Kp S H H') (kt : KTu H H') (ns : ∀ x ∈ S, ∀ o u, H x ≠ some (.frz o u)) {t : Addr} {us : List V} (h : Rd H t (.tup us)) : Rd H' t (.tup us) := by
  rcases h with h | ⟨o, h⟩
  · exact .inl (kt _ _ h)
  · exact .inr ⟨o, k _ _ (fun z => ns _ z _ _ h) h⟩
theorem nodup_on {α β : Type} {f : α → β} {l : List α} (nd : l.Nodup) (h : ∀ x ∈ l, ∀ y ∈ l, f x = f y → x = y) : (l.map f).Nodup := by
  rw [List.Nodup, List.pairwise_map]
  exact nd.imp_of_mem fun {x y} hx hy ne e => ne (h x hx y hy e)
theorem nodup_of {α β : Type} {f : α → β} {l : List α} (nd : (l.map f).Nodup) : l.Nodup := by
  rw [List.Nodup, List.pairwise_map] at nd
  exact nd.imp fun ne e => ne (congrArg f e)
theorem fresh_fw {Ts S : List Addr} {H H1 H2 : Hp} (f : Fw Ts H H1) (k : Kp (S ++ Ts) H1 H2) (n : ∀ x ∈ S, H x = none) (t : Tabs Ts H2) : Fw Ts H H2 :=
  ⟨fun x o nx e => k x o (fun z => (List.mem_append.mp z).elim (fun y => by rw [n x y] at e; cases e) nx) (f.kp x o nx e), t⟩
theorem book_hfl (z : Str) (b e : Int) (want : List Int) (pl : List (Str × Int)) (h : Hm) (a : Addr) : hfl (bookH z b e want pl h) a = hfl h a := by
  unfold bookH
  split <;> rfl
theorem book_name (z : Str) (b e : Int) (want : List Int) (pl : List (Str × Int)) (h : Hm) : (bookH z b e want pl h).name = h.name := by
  unfold bookH
  split <;> rfl
theorem book_room (z : Str) (b e : Int) (want : List Int) (pl : List (Str × Int)) (h : Hm) : (bookH z b e want pl h).room = h.room := by
  unfold bookH
  split <;> rfl
theorem find_pl {pl : List (Str × Int)} (nd : (pl.map (·.1)).Nodup) {q : Str × Int} (hq : q ∈ pl) : pl.find? (fun r => decide (r.1 = q.1)) = some q := by
  cases h : pl.find? fun r => decide (r.1 = q.1) with
  | none =>
    have := List.find?_eq_none.mp h q hq
    simp at this
  | some r =>
    have h1 := List.mem_of_find?_eq_some h
    have h2 := List.find?_some h
    rw [nodup_inj nd r h1 q hq (of_decide_eq_true h2)]
theorem book_in {z : Str} {b e : Int} {want : List Int} {pl : List (Str × Int)} (nd : (pl.map (·.1)).Nodup) {h : Hm} {q : Str × Int} (hq : q ∈ pl) (hn : h.name = q.1) : bookH z b e want pl h = { h with es := h.es ++ [⟨xOf z b e want q.2, q.2⟩] } := by
  unfold bookH
  rw [hn, find_pl nd hq]
theorem book_out {z : Str} {b e : Int} {want : List Int} {pl : List (Str × Int)} {h : Hm} (hn : h.name ∉ pl.map (·.1)) : bookH z b e want pl h = h := by
  unfold bookH
  have : pl.find? (fun r => decide (r.1 = h.name)) = none := List.find?_eq_none.mpr fun r hr z => hn (by
    rw [← of_decide_eq_true z]
    exact List.mem_map.mpr ⟨r, hr, rfl⟩)
  rw [this]
/-- entries of a house behind the booking -/
theorem book_mem {z : Str} {b e : Int} {want : List Int} {pl : List (Str × Int)} {h : Hm} {em : Em} (he : em ∈ (bookH z b e want pl h).es) : em ∈ h.es ∨ ∃ q ∈ pl, q.1 = h.name ∧ em = ⟨xOf z b e want q.2, q.2⟩ := by
  unfold bookH at he
  split at he
  · next q hq =>
    rcases List.mem_append.mp he with y | y
    · exact .inl y
    · exact .inr ⟨q, List.mem_of_find?_eq_some hq, of_decide_eq_true (List.find?_some (p := fun q : Str × Int => decide (q.1 = h.name)) hq), List.mem_singleton.mp y⟩
  · exact .inl he
theorem book_old {z : Str} {b e : Int} {want : List Int} {pl : List (Str × Int)} {h : Hm} {em : Em} (he : em ∈ h.es) : em ∈ (bookH z b e want pl h).es := by
  unfold bookH
  split
  · exact List.mem_append_left _ he
  · exact he
theorem EGood.book {M : List Hm} {z : Str} {b e : Int} {want : List Int} {pl : List (Str × Int)} (G : EGood M) (ok : Bkbl M z b e want pl) (nb : ¬ Booked M z) : EGood (M.map (bookH z b e want pl)) := by
  refine ⟨by rw [List.length_map]; exact G.few, ?_, fun h hh => ?_, fun h hh em he => ?_, fun h hh h' hh' em he em' he' k => ?_, fun h hh n hn => ?_⟩
  · rw [List.map_map]
    have : M.map ((fun h : Hm => h.name) ∘ bookH z b e want pl) = M.map (·.name) := List.map_congr_left fun h _ => book_name ..
    rw [this]
    exact G.nd
  · obtain ⟨h0, m0, rfl⟩ := List.mem_map.mp hh
    rw [book_name]
    exact G.nm h0 m0
  · obtain ⟨h0, m0, rfl⟩ := List.mem_map.mp hh
    rcases book_mem he with y | ⟨q, _, _, rfl⟩
    · exact G.keys h0 m0 em y
    · exact ok.key
  · obtain ⟨h0, m0, rfl⟩ := List.mem_map.mp hh
    obtain ⟨h1, m1, rfl⟩ := List.mem_map.mp hh'
    rcases book_mem he with y | ⟨q, _, _, rfl⟩ <;> rcases book_mem he' with y' | ⟨q', _, _, rfl⟩
    · exact G.same h0 m0 h1 m1 em y em' y' k
    · exact absurd ⟨h0, m0, em, y, k⟩ nb
    · exact absurd ⟨h1, m1, em', y', k.symm⟩ nb
    · exact ⟨rfl, rfl⟩
  · obtain ⟨h0, m0, rfl⟩ := List.mem_map.mp hh
    rw [book_room] at hn
    exact G.nn h0 m0 n hn
theorem book_alike {z y : Str} {b e : Int} {want : List Int} {pl : List (Str × Int)} (ne : y ≠ z) (h : Hm) : Alike h (bookH z b e want pl h) y := fun m => by
  constructor
  · rintro ⟨em, h1, h2, h3⟩
    exact ⟨em, book_old h1, h2, h3⟩
  · rintro ⟨em, h1, h2, h3⟩
    rcases book_mem h1 with k | ⟨q, _, _, rfl⟩
    · exact ⟨em, k, h2, h3⟩
    · exact absurd h2.symm ne
theorem book_booked {M : List Hm} {z y : Str} {b e : Int} {want : List Int} {pl : List (Str × Int)} (hne : pl ≠ []) (all : ∀ h ∈ pl.map (·.1), h ∈ M.map (·.name)) (nd : (pl.map (·.1)).Nodup) : Booked (M.map (bookH z b e want pl)) y ↔ Booked M y ∨ y = z := by
  by_cases h : y = z
  · refine ⟨fun _ => .inr h, fun _ => ?_⟩
    cases pl with
    | nil => exact absurd rfl hne
    | cons q pl =>
      obtain ⟨hm, h1, h2⟩ := List.mem_map.mp (all q.1 (List.mem_map.mpr ⟨q, List.mem_cons_self, rfl⟩))
      refine ⟨_, List.mem_map.mpr ⟨hm, h1, rfl⟩, ⟨xOf z b e want q.2, q.2⟩, ?_, h.symm⟩
      rw [book_in nd List.mem_cons_self h2]
      exact List.mem_append_right _ (List.mem_singleton.mpr rfl)
  · rw [booked_map fun hm _ => book_alike h hm]
    exact ⟨.inl, fun g => g.elim _root_.id fun g => absurd g h⟩
theorem book_pl {M : List Hm} {z : Str} {b e : Int} {want : List Int} {pl ps : List (Str × Int)} (nb : ¬ Booked M z) (all : ∀ h ∈ pl.map (·.1), h ∈ M.map (·.name)) (nd : (pl.map (·.1)).Nodup) (p : ps.Perm pl) (so : sortedS (ps.map (·.1)) = true) : PlOf (M.map (bookH z b e want pl)) z ps := by
  refine ⟨so, (p.map _).nodup_iff.mpr nd, fun h n => ?_⟩
  rw [p.mem_iff]
  constructor
  · intro hq
    obtain ⟨hm, h1, h2⟩ := List.mem_map.mp (all h (List.mem_map.mpr ⟨(h, n), hq, rfl⟩))
    refine ⟨_, List.mem_map.mpr ⟨hm, h1, rfl⟩, (book_name ..).trans h2, ⟨xOf z b e want n, n⟩, ?_, rfl, rfl⟩
    rw [book_in nd hq h2]
    exact List.mem_append_right _ (List.mem_singleton.mpr rfl)
  · rintro ⟨hm', h1, h2, em, h3, h4, h5⟩
    obtain ⟨hm, h6, rfl⟩ := List.mem_map.mp h1
    rcases book_mem h3 with k | ⟨q, hq, hn, rfl⟩
    · exact absurd ⟨hm, h6, em, k, h4⟩ nb
    · rw [book_name] at h2
      have : (h, n) = q := by rw [← h5, ← h2, ← hn]
      rw [this]
      exact hq
end My
set_option maxHeartbeats 1000000
/-! estates: gangs stretched, forgotten; houses taken out -/
namespace My
open PySem PySem.W PySem.Spec PyProof.Rows L2 GX GxR
/-- what a stretch would make of an entry -/
def longer (x : Bw) (t : Int) : Bw := ⟨x.key, x.b, t, x.am⟩
theorem strF_other {z k : Str} {t e : Int} (n : k ≠ z) : strF z t k e = e := if_neg fun h => n h.1
theorem str_out {z : Str} {t : Int} {h : Hm} (n : ∀ em ∈ h.es, em.x.key ≠ z) : retH (strF z t) h = h := by
  unfold retH
  have : h.es.map (retE (strF z t)) = h.es := by
    conv => rhs; rw [← List.map_id h.es]
    refine List.map_congr_left fun em he => ?_
    unfold retE
    rw [strF_other (n em he)]
    rfl
  rw [this]
theorem str_put {z : Str} {t : Int} {h : Hm} {x : Bw} (nd : (h.bs.map (·.key)).Nodup) (hx : x ∈ h.bs) (hk : x.key = z) (lt : x.e < t) : putR h.bs (longer x t) = (retH (strF z t) h).bs := by
  have e1 : strF z t x.key x.e = t := if_pos ⟨hk, lt⟩
  rw [ret_bs, ← ret_put nd hx hk (fun k e n => strF_other n), e1]
  rfl
theorem str_stay {z : Str} {t : Int} {h : Hm} {x : Bw} (nd : (h.bs.map (·.key)).Nodup) (hx : x ∈ h.bs) (hk : x.key = z) (lt : ¬ x.e < t) : (retH (strF z t) h).bs = h.bs := by
  rw [ret_bs]
  refine ret_same fun y hy => ?_
  unfold strF
  split
  · next h2 =>
    have : y = x := nodup_inj nd y hy x hx (h2.1.trans hk.symm)
    have h3 := h2.2
    rw [this] at h3
    exact absurd h3 lt
  · rfl
end My
namespace My
open PySem PySem.W PySem.Spec PyProof.Rows L2 GX GxR
/-! what is past is forgotten -/
def pastH (t : Int) (h : Hm) : Hm := { h with es := h.es.filter fun em => lateB t em.x }
def Gone (M : List Hm) (t : Int) (z : Str) : Prop := ∃ h ∈ M, ∃ em ∈ h.es, em.x.key = z ∧ em.x.e ≤ t
theorem past_bs (t : Int) (h : Hm) : (pastH t h).bs = h.bs.filter (lateB t) := by
  unfold pastH Hm.bs
  rw [List.filter_map]
  rfl
theorem late_not {t : Int} {x : Bw} : lateB t x = true ↔ ¬ x.e ≤ t := by
  unfold lateB
  simp
theorem past_booked {M : List Hm} (G : EGood M) {t : Int} {z : Str} : Booked (M.map (pastH t)) z ↔ Booked M z ∧ ¬ Gone M t z := by
  constructor
  · rintro ⟨hm', h1, em, h2, h3⟩
    obtain ⟨hm, h4, rfl⟩ := List.mem_map.mp h1
    obtain ⟨h5, h6⟩ := List.mem_filter.mp h2
    refine ⟨⟨hm, h4, em, h5, h3⟩, fun ⟨h, hh, em', he', hk', hle⟩ => late_not.mp h6 ?_⟩
    have := (G.same hm h4 h hh em h5 em' he' (h3.trans hk'.symm)).2
    omega
  · rintro ⟨⟨hm, h1, em, h2, h3⟩, n⟩
    exact ⟨pastH t hm, List.mem_map.mpr ⟨hm, h1, rfl⟩, em, List.mem_filter.mpr ⟨h2, late_not.mpr fun h4 => n ⟨hm, h1, em, h2, h3, h4⟩⟩, h3⟩
end My
namespace My
open PySem PySem.W PySem.Spec PyProof.Rows L2 GX GxR
end My
namespace My
open PySem PySem.W PySem.Spec PyProof.Rows L2 GX GxR
theorem Gone.sub {L : List Hp2} {t : Int} {i : Nat} {z : Str} (h : Gone ((L.take i).map (·.2)) t z) : Gone (L.map (·.2)) t z := by
  obtain ⟨hm, h1, h2⟩ := h
  obtain ⟨p, hp, rfl⟩ := List.mem_map.mp h1
  exact ⟨p.2, List.mem_map.mpr ⟨p, List.mem_of_mem_take hp, rfl⟩, h2⟩
end My
set_option maxHeartbeats 1000000
/-! estates: a house is taken out -/
namespace My
open PySem PySem.W PySem.Spec PyProof.Rows L2 GX GxR
def loseM (z : Str) (M : List Hm) : List Hm := M.filter fun h => decide (h.name ≠ z)
theorem lose_mem {z : Str} {M : List Hm} {h : Hm} : h ∈ loseM z M ↔ h ∈ M ∧ h.name ≠ z := by
  unfold loseM
  rw [List.mem_filter, decide_eq_true_eq]
theorem EGood.sub {M M' : List Hm} (s : M'.Sublist M) (G : EGood M) : EGood M' :=
  ⟨Nat.le_trans s.length_le G.few, G.nd.sublist (s.map _), fun h hh => G.nm h (s.subset hh), fun h hh => G.keys h (s.subset hh), fun h hh h' hh' => G.same h (s.subset hh) h' (s.subset hh'), fun h hh => G.nn h (s.subset hh)⟩
theorem sorted_filter {l : List Str} {f : Str → Bool} (h : sortedS l = true) : sortedS (l.filter f) = true := by
  refine SX.sorted_of ?_
  have := (sorted_pw h).sublist (l.filter_sublist (p := f))
  refine this.imp fun {a b} hab => ?_
  rw [ltCps_eq]
  exact decide_eq_false (List.not_lt.mpr hab)
/-- the gang's placing without the house -/
theorem PlOf.lose {M : List Hm} {z y : Str} {ps : List (Str × Int)} (h : PlOf M y ps) : PlOf (loseM z M) y (ps.filter fun q => decide (q.1 ≠ z)) := by
  have e : (ps.filter fun q => decide (q.1 ≠ z)).map (·.1) = (ps.map (·.1)).filter fun x => decide (x ≠ z) := by
    rw [List.filter_map]
    rfl
  refine ⟨by rw [e]; exact sorted_filter h.so, by rw [e]; exact h.nd.filter _, fun w n => ?_⟩
  rw [List.mem_filter, h.is, decide_eq_true_eq]
  constructor
  · rintro ⟨⟨hm, h1, h2, h3⟩, h4⟩
    exact ⟨hm, lose_mem.mpr ⟨h1, by rw [h2]; exact h4⟩, h2, h3⟩
  · rintro ⟨hm, h1, h2, h3⟩
    obtain ⟨h5, h6⟩ := lose_mem.mp h1
    exact ⟨⟨hm, h5, h2, h3⟩, by rw [← h2]; exact h6⟩
theorem PlOf.nil {M : List Hm} {y : Str} {ps : List (Str × Int)} (h : PlOf M y ps) : ps = [] ↔ ¬ Booked M y := by
  constructor
  · rintro rfl ⟨hm, h1, em, h2, h3⟩
    have := (h.is hm.name em.many).mpr ⟨hm, h1, rfl, em, h2, h3, rfl⟩
    cases this
  · intro n
    cases ps with
    | nil => rfl
    | cons q ps =>
      obtain ⟨hm, h1, _, em, h2, h3, _⟩ := (h.is q.1 q.2).mp List.mem_cons_self
      exact absurd ⟨hm, h1, em, h2, h3⟩ n
end My
set_option maxHeartbeats 1000000
/-! estates: a house's state, a house more, none -/
namespace My
open PySem PySem.W PySem.Spec PyProof.Rows L2 GX GxR
def setH (z st : Str) (h : Hm) : Hm := if h.name = z then { h with state := st } else h
theorem set_name (z st : Str) (h : Hm) : (setH z st h).name = h.name := by
  unfold setH
  split <;> rfl
theorem set_es (z st : Str) (h : Hm) : (setH z st h).es = h.es := by
  unfold setH
  split <;> rfl
theorem set_room (z st : Str) (h : Hm) : (setH z st h).room = h.room := by
  unfold setH
  split <;> rfl
theorem set_alike (z st y : Str) (h : Hm) : Alike h (setH z st h) y := fun n => by rw [set_es]
section
variable {CE CH CB e edx hd pd : Addr} {H H' : Hp} {pps : List (Key × V)} {L : List Hp2}
theorem EsAt.setS (B : EsAt CE CH CB H e edx hd pd pps L) {p : Hp2} (hp : p ∈ L) {st : Str} : After CE CH CB [] H e edx hd pd L ((L.map (·.2)).map (setH p.2.name st)) (upd H p.1.a (.ins CH p.1.dx (hfl { p.2 with state := st } p.1.b))) := by
  have oa := (B.each p hp).obj
  have k1 : Kp [p.1.a] H (upd H p.1.a (.ins CH p.1.dx (hfl { p.2 with state := st } p.1.b))) := kp_upd (List.mem_singleton.mpr rfl)
  have ea : upd H p.1.a (.ins CH p.1.dx (hfl { p.2 with state := st } p.1.b)) p.1.a = some (.ins CH p.1.dx (hfl { p.2 with state := st } p.1.b)) := upd_same
  generalize upd H p.1.a (.ins CH p.1.dx (hfl { p.2 with state := st } p.1.b)) = H1 at k1 ea ⊢
  have inF : ∀ x ∈ [p.1.a], x ∈ foot e hd pd L := fun x hx => foot_mem.mpr (.inr (.inr (.inr ⟨p, hp, .inl (List.mem_singleton.mp hx)⟩)))
  have kt := B.tup inF k1
  have n1 : ∀ {x : Addr} {o : HO}, H x = some o → (∀ C dx h b, o ≠ .ins C dx (hfl h b)) → H1 x = some o := fun {x o} hx no => k1 _ _ (fun y => by
    rw [List.mem_singleton.mp y, oa] at hx
    exact no _ _ _ _ (Option.some.inj hx).symm) hx
  have eachS : ∀ p2 ∈ L, InAt CH CB H1 p2 (setH p.2.name st p2.2) := fun p2 hp2 => by
    by_cases same : p2.2.name = p.2.name
    · have : p2 = p := nodup_inj B.nd p2 hp2 p hp same
      subst this
      have a := B.each p2 hp2
      have e1 : setH p2.2.name st p2.2 = { p2.2 with state := st } := if_pos rfl
      rw [e1]
      refine ⟨p2.1, rfl, rfl, rfl, ea, ?_, ?_⟩
      exact a.book.kp k1 kt (fun y => by
        have := a.book.obj
        rw [List.mem_singleton.mp y, oa] at this
        exact flds_hfl this.symm) fun y => by
        have := a.book.en
        rw [List.mem_singleton.mp y, oa] at this
        cases this
      exact a.lf.kp k1 kt (NoL.one oa (fun _ z => by cases z))
    · have e1 : setH p.2.name st p2.2 = p2.2 := if_neg same
      rw [e1]
      have a := B.each p2 hp2
      exact (a.kp k1 kt (fun y => same (by rw [nodup_inj B.sa p2 hp2 p hp (List.mem_singleton.mp y)])) (fun y => by
        have := a.book.obj
        rw [List.mem_singleton.mp y, oa] at this
        exact flds_hfl this.symm) (fun y => by
        have := a.book.en
        rw [List.mem_singleton.mp y, oa] at this
        cases this) (NoL.one oa (fun _ z => by cases z))).inAt
  have goodS : EGood ((L.map (·.2)).map (setH p.2.name st)) := by
    have G := B.good
    refine ⟨by rw [List.length_map]; exact G.few, ?_, fun h hh => ?_, fun h hh em he => ?_, fun h hh h' hh' em he em' he' k => ?_, fun h hh n hn => ?_⟩
    · rw [List.map_map]
      have : (L.map (·.2)).map ((fun h : Hm => h.name) ∘ setH p.2.name st) = (L.map (·.2)).map (·.name) := List.map_congr_left fun h _ => set_name _ _ h
      rw [this]
      exact G.nd
    · obtain ⟨h0, m0, rfl⟩ := List.mem_map.mp hh
      rw [set_name]
      exact G.nm h0 m0
    · obtain ⟨h0, m0, rfl⟩ := List.mem_map.mp hh
      rw [set_es] at he
      exact G.keys h0 m0 em he
    · obtain ⟨h0, m0, rfl⟩ := List.mem_map.mp hh
      obtain ⟨h1, m1, rfl⟩ := List.mem_map.mp hh'
      rw [set_es] at he he'
      exact G.same h0 m0 h1 m1 em he em' he' k
    · obtain ⟨h0, m0, rfl⟩ := List.mem_map.mp hh
      rw [set_room] at hn
      exact G.nn h0 m0 n hn
  obtain ⟨L1, g1, g2, g3⟩ := B.inplace (g := setH p.2.name st) (pps' := pps) (set_name _ _) (n1 B.obj fun C dx h b y => efl_hfl (congrArg some y)) (n1 B.hs fun C dx h b y => by cases y) (n1 B.pl fun C dx h b y => by cases y) eachS
    (by
      obtain ⟨zs, h1, h2, h3, h4⟩ := B.plk
      exact ⟨zs, h1, h2, h3, fun y => by rw [h4, booked_map fun h _ => set_alike p.2.name st y h]⟩)
    (fun y v hv => by
      obtain ⟨t, ps, rfl, h1, h2⟩ := B.pls y v hv
      exact ⟨t, ps, rfl, B.prsF inF k1 h1, h2.map (g := setH p.2.name st) (set_name _ _) fun h _ => set_alike p.2.name st y h⟩) goodS
  exact ⟨pps, L1, k1.mono fun x hx => List.mem_append_left _ (inF x hx), (fun T hT => by cases hT), g1, g2, fun x hx => .inl (g3 x hx)⟩
/-- a house more -/
theorem EsAt.add (B : EsAt CE CH CB H e edx hd pd pps L) {z y : Str} {kd : Option Str} {room : List Int} {a dx b bdx d m : Addr} (hz : z ∉ names L) (lz : z.length ≤ 100) (few : L.length < 60) (r1 : 1 ≤ room.length) (r20 : room.length ≤ 20) (nn : ∀ n ∈ room, 0 ≤ n)
    (hm : H m = some (.tup (room.map V.int))) (na : H a = Option.none) (nb : H b = Option.none) (nd : H d = Option.none) (k : Kp [hd] H H') (ha : H' a = some (.ins CH dx (hfl ⟨z, y, kd, Str.ofString "open", [], []⟩ b))) (hb : H' b = some (.ins CB bdx (flds m d .non))) (hdd : H' d = some (.dK []))
    (hh : H' hd = some (.dK (putK (hkv L) (Sum.inr z) (.ref a)))) : After CE CH CB [] H e edx hd pd L (L.map (·.2) ++ [⟨z, y, kd, Str.ofString "open", room, []⟩]) H' := by
  obtain ⟨inS, eS, hdS, pdS, sd2, hdpd⟩ := B.bd
  have kt : KTu H H' := fun x xs hx => k _ _ (fun y => by rw [List.mem_singleton.mp y, B.hs] at hx; cases hx) hx
  have hde : hd ≠ e := fun y => by
    have := B.hs
    rw [y, B.obj] at this
    cases this
  have app : putK (hkv L) (Sum.inr z : Key) (.ref a) = hkv (L ++ [(⟨a, dx, b, bdx, m, d, .non, []⟩, ⟨z, y, kd, Str.ofString "open", room, []⟩)]) := by
    rw [putK_app fun p hp e1 => hz (by
      unfold hkv at hp
      obtain ⟨q, hq, rfl⟩ := List.mem_map.mp hp
      exact List.mem_map.mpr ⟨q, hq, Sum.inr.inj e1⟩)]
    unfold hkv
    rw [List.map_append]
    rfl
  have inF : ∀ x ∈ [hd], x ∈ foot e hd pd L := fun x hx => foot_mem.mpr (.inr (.inl (List.mem_singleton.mp hx)))
  have eM : (L ++ [((⟨a, dx, b, bdx, m, d, .non, []⟩ : HAd), (⟨z, y, kd, Str.ofString "open", room, []⟩ : Hm))]).map (·.2) = L.map (·.2) ++ [⟨z, y, kd, Str.ofString "open", room, []⟩] := by rw [List.map_append]; rfl
  have bk : ∀ w, Booked (L.map (·.2) ++ [(⟨z, y, kd, Str.ofString "open", room, []⟩ : Hm)]) w ↔ Booked (L.map (·.2)) w := fun w => by
    constructor
    · rintro ⟨h, h1, em, h2, h3⟩
      rcases List.mem_append.mp h1 with h1 | h1
      · exact ⟨h, h1, em, h2, h3⟩
      · rw [List.mem_singleton.mp h1] at h2
        cases h2
    · rintro ⟨h, h1, h2⟩
      exact ⟨h, List.mem_append_left _ h1, h2⟩
  refine ⟨pps, L ++ [(⟨a, dx, b, bdx, m, d, .non, []⟩, ⟨z, y, kd, Str.ofString "open", room, []⟩)], k.mono fun x hx => List.mem_append_left _ (inF x hx), (fun T hT => by cases hT), ⟨k _ _ (fun y => hde (List.mem_singleton.mp y).symm) B.obj, by rw [← app]; exact hh, k _ _ (fun y => hdpd (List.mem_singleton.mp y).symm) B.pl, fun p hp => ?_, ?_, fun w v hv => ?_, ?_, ?_, ?_, ?_⟩, eM, fun x hx => ?_⟩
  · rcases List.mem_append.mp hp with hp | hp
    · have a0 := B.each p hp
      exact a0.kp k kt (fun y => by
        have := a0.obj
        rw [List.mem_singleton.mp y, B.hs] at this
        cases this) (fun y => by
        have := a0.book.obj
        rw [List.mem_singleton.mp y, B.hs] at this
        cases this) (fun y => hdS (List.mem_append_right _ (List.mem_map.mpr ⟨p, hp, List.mem_singleton.mp y⟩))) (NoL.one B.hs (fun _ z => by cases z))
    · rw [List.mem_singleton.mp hp]
      exact ⟨ha, ⟨hb, kt _ _ hm, hdd, .nil, .nil, (by show 0 < 110; omega), ⟨by show 0 ≤ 200; omega, (fun x hx => by cases hx), fun x hx => by cases hx⟩, r1, r20⟩, .inl rfl⟩
  · rw [eM]
    obtain ⟨zs, h1, h2, h3, h4⟩ := B.plk
    exact ⟨zs, h1, h2, h3, fun w => by rw [h4, bk]⟩
  · rw [eM]
    obtain ⟨t, ps, rfl, h1, h2⟩ := B.pls w v hv
    refine ⟨t, ps, rfl, B.prsF inF k h1, h2.so, h2.nd, fun q n => ?_⟩
    rw [h2.is]
    constructor
    · rintro ⟨h, h3, h4⟩
      exact ⟨h, List.mem_append_left _ h3, h4⟩
    · rintro ⟨h, h3, h4, em, h5, h6⟩
      rcases List.mem_append.mp h3 with h3 | h3
      · exact ⟨h, h3, h4, em, h5, h6⟩
      · rw [List.mem_singleton.mp h3] at h5
        cases h5
  · rw [List.map_append]
    refine List.nodup_append.mpr ⟨B.sa, by simp, fun x hx w hw e1 => ?_⟩
    obtain ⟨p, hp, rfl⟩ := List.mem_map.mp hx
    have w1 : w = a := by simpa using hw
    have := (B.each p hp).obj
    rw [e1, w1, na] at this
    cases this
  · rw [List.map_append]
    refine List.nodup_append.mpr ⟨B.sb, by simp, fun x hx w hw e1 => ?_⟩
    obtain ⟨p, hp, rfl⟩ := List.mem_map.mp hx
    have w1 : w = b := by simpa using hw
    have := (B.each p hp).book.obj
    rw [e1, w1, nb] at this
    cases this
  · rw [List.map_append]
    have sd := B.sd
    have dn : ∀ x ∈ hd :: pd :: L.map (·.1.d), x ≠ d := fun x hx e1 => by
      rcases List.mem_cons.mp hx with y | hx
      · have := B.hs
        rw [← y, e1, nd] at this
        cases this
      · rcases List.mem_cons.mp hx with y | hx
        · have := B.pl
          rw [← y, e1, nd] at this
          cases this
        · obtain ⟨p, hp, e2⟩ := List.mem_map.mp hx
          have := (B.each p hp).book.en
          rw [e2, e1, nd] at this
          cases this
    exact List.nodup_append.mpr ⟨sd, by simp, fun x hx w hw => by
      have w1 : w = d := by simpa using hw
      rw [w1]
      exact dn x hx⟩
  · rw [eM]
    have G := B.good
    have mem : ∀ h ∈ L.map (·.2) ++ [(⟨z, y, kd, Str.ofString "open", room, []⟩ : Hm)], h ∈ L.map (·.2) ∨ h = ⟨z, y, kd, Str.ofString "open", room, []⟩ := fun h hh => (List.mem_append.mp hh).imp_right List.mem_singleton.mp
    refine ⟨by rw [List.length_append, List.length_map]; exact few, ?_, fun h hh => ?_, fun h hh em he => ?_, fun h hh h' hh' em he em' he' k => ?_, fun h hh n hn => ?_⟩
    · rw [List.map_append]
      refine List.nodup_append.mpr ⟨G.nd, by simp, fun x hx w hw e1 => hz ?_⟩
      have w1 : w = z := by simpa using hw
      rw [List.map_map] at hx
      rw [← w1, ← e1]
      exact hx
    · rcases mem h hh with h1 | rfl
      · exact G.nm h h1
      · exact lz
    · rcases mem h hh with h1 | rfl
      · exact G.keys h h1 em he
      · cases he
    · rcases mem h hh with h1 | rfl
      · rcases mem h' hh' with h2 | rfl
        · exact G.same h h1 h' h2 em he em' he' k
        · cases he'
      · cases he
    · rcases mem h hh with h1 | rfl
      · exact G.nn h h1 n hn
      · exact nn n hn
  · rcases foot_mem.mp hx with w | w | w | ⟨p, hp, w⟩
    · exact .inl (foot_mem.mpr (.inl w))
    · exact .inl (foot_mem.mpr (.inr (.inl w)))
    · exact .inl (foot_mem.mpr (.inr (.inr (.inl w))))
    · rcases List.mem_append.mp hp with hp | hp
      · exact .inl (foot_mem.mpr (.inr (.inr (.inr ⟨p, hp, w⟩))))
      · rw [List.mem_singleton.mp hp] at w
        rcases w with w | w | w
        · exact .inr (by rw [w]; exact na)
        · exact .inr (by rw [w]; exact nb)
        · exact .inr (by rw [w]; exact nd)
end
/-- an estate of no houses -/
theorem EsAt.nothing {CE CH CB e edx hd pd : Addr} {H : Hp} (o : H e = some (.ins CE edx (efl hd pd))) (hh : H hd = some (.dK [])) (hp : H pd = some (.dK [])) (ne : hd ≠ pd) : EsAt CE CH CB H e edx hd pd [] [] :=
  ⟨o, hh, hp, (fun p h => by cases h), ⟨[], rfl, .nil, Nat.zero_le _, fun z => ⟨(fun h => by cases h), (fun ⟨h, h1, _⟩ => by cases h1)⟩⟩, (fun z v hv => by cases hv), .nil, .nil, by simp [ne], ⟨Nat.zero_le _, .nil, (fun h hh => by cases hh), (fun h hh => by cases hh), (fun h hh => by cases hh), fun h hh => by cases hh⟩⟩
end My
set_option maxHeartbeats 1000000
/-! the law's own keeping of an estate: a dict of houses, each a dict, with a dict of entries -/
namespace My
open PySem PySem.W PySem.Spec PyProof.Rows L2 GX GxR
structure MAd where
  a : Addr
  d : Addr
  m : Addr
  ps : List (Key × V)
def EmAt (H : Hp) (p : Key × V) (em : Em) : Prop := p.1 = Sum.inr em.x.key ∧ ∃ r am, p.2 = .ref r ∧ H r = some (.tup [.int em.x.b, .int em.x.e, .ref am, .int em.many]) ∧ H am = some (.tup (em.x.am.map V.int))
def mfl (h : Hm) (m d : Addr) : List (Key × V) := [(.inr "yard", .str h.yard), (.inr "room", .ref m), (.inr "kind", optS h.kind), (.inr "state", .str h.state), (.inr "entries", .ref d)]
structure MhAt (H : Hp) (x : MAd) (h : Hm) : Prop where
  obj : H x.a = some (.dK (mfl h x.m x.d))
  rm : H x.m = some (.tup (h.room.map V.int))
  en : H x.d = some (.dK x.ps)
  prs : Paired (EmAt H) x.ps h.es
  nd : (h.es.map fun em => em.x.key).Nodup
  few : h.es.length < 110
  len : ∀ em ∈ h.es, em.x.am.length = h.room.length
  r1 : 1 ≤ h.room.length
  r20 : h.room.length ≤ 20
  ne : x.a ≠ x.d
abbrev Md2 := MAd × Hm
def mkv (L : List Md2) : List (Key × V) := L.map fun p => (Sum.inr p.2.name, .ref p.1.a)
structure MdAt (H : Hp) (D : Addr) (L : List Md2) : Prop where
  obj : H D = some (.dK (mkv L))
  each : ∀ p ∈ L, MhAt H p.1 p.2
  nd : (L.map (·.2.name)).Nodup
  dicts : (D :: (L.map (·.1.a) ++ L.map (·.1.d))).Nodup
  few : L.length ≤ 60
theorem EmAt.kt {H H' : Hp} (k : KTu H H') {p : Key × V} {em : Em} (h : EmAt H p em) : EmAt H' p em := by
  obtain ⟨h1, r, am, h2, h3, h4⟩ := h
  exact ⟨h1, r, am, h2, k _ _ h3, k _ _ h4⟩
theorem MhAt.same {H H' : Hp} (s : Same H H') {x : MAd} {h : Hm} (B : MhAt H x h) : MhAt H' x h :=
  ⟨s _ _ B.obj, s _ _ B.rm, s _ _ B.en, B.prs.mono fun _ _ g => g.kt (Same.kt s), B.nd, B.few, B.len, B.r1, B.r20, B.ne⟩
theorem MhAt.kp {H H' : Hp} {S : List Addr} (k : Kp S H H') (kt : KTu H H') {x : MAd} {h : Hm} (na : x.a ∉ S) (nd : x.d ∉ S) (B : MhAt H x h) : MhAt H' x h :=
  ⟨k _ _ na B.obj, kt _ _ B.rm, k _ _ nd B.en, B.prs.mono fun _ _ g => g.kt kt, B.nd, B.few, B.len, B.r1, B.r20, B.ne⟩
theorem MdAt.same {H H' : Hp} (s : Same H H') {D : Addr} {L : List Md2} (B : MdAt H D L) : MdAt H' D L :=
  ⟨s _ _ B.obj, fun p hp => (B.each p hp).same s, B.nd, B.dicts, B.few⟩
theorem mkv_keys (L : List Md2) : (mkv L).map (·.1) = (L.map (·.2.name)).map Sum.inr := by
  unfold mkv
  rw [List.map_map, List.map_map]
  rfl
theorem MdAt.val {H : Hp} {D : Addr} {L : List Md2} (B : MdAt H D L) {p : Md2} (hp : p ∈ L) : valV (mkv L) (Sum.inr p.2.name : Key) = some (.ref p.1.a) := by
  obtain ⟨i, hi⟩ := List.mem_iff_getElem?.mp hp
  exact valV_get (i := i) (by rw [mkv_keys]; exact keys_nd B.nd) (by unfold mkv; rw [List.getElem?_map, hi]; rfl)
def withinM (b e t : Int) : Bool := decide (b < t) && decide (t < e)
end My
set_option maxHeartbeats 1000000
/-! the first time of too much, looked for at begins alone -/
namespace My
open PySem PySem.Spec PyProof.Rows L2 GX GxR
end My
set_option maxHeartbeats 1000000
/-! deeds on an estate: what they come to -/
namespace My
open PySem PySem.W PySem.Spec PyProof.Rows L2 GX GxR
inductive EDeed where
  | add (z y : Str) (room : List Int) (kd : Option Str)
  | lose (z : Str)
  | state (z st : Str)
  | book (z gd hw : Str) (rk mn ln : Int) (want : List Int) (pl : List (Str × Int)) (bg : Int)
  | cut (z : Str) (t : Int)
  | stretch (z : Str) (t : Int)
  | free (z : Str)
  | forget (t : Int)
inductive EOut where
  | told
  | keys (zs : List Str)
  | ref (w : Str)
  | over (t : Int)
abbrev nmsM (M : List Hm) : List Str := M.map (·.name)
def cutH (z : Str) (t : Int) (h : Hm) : Hm := retH (cutF z t) { h with es := h.es.filter fun em => decide (¬ (em.x.key = z ∧ t ≤ em.x.b)) }
/-- the houses in which a gang is booked, rising -/
structure Sites (M : List Hm) (z : Str) (ys : List Str) : Prop where
  nd : ys.Nodup
  so : sortedS ys = true
  is : ∀ w, w ∈ ys ↔ ∃ hm ∈ M, hm.name = w ∧ ∃ em ∈ hm.es, em.x.key = z
/-- the first that tells a time -/
def FirstOf {α : Type} (R : α → Option Int → Prop) (xs : List α) : Option Int → Prop
  | none => ∀ x ∈ xs, R x none
  | some t => ∃ (i : Nat) (x : α), xs[i]? = some x ∧ (∀ (j : Nat) (y : α), j < i → xs[j]? = some y → R y none) ∧ R x (some t)
def KeptE (M Mn : List Hm) : Option Int → EOut → List Hm → Prop
  | none, o, M' => o = .told ∧ M' = Mn
  | some t, o, M' => o = .over t ∧ M' = M
/-- of a house in a placing: the first time of too much -/
def BkR (M : List Hm) (b e : Int) (want : List Int) (q : Str × Int) (o : Option Int) : Prop := ∃ hm ∈ M, hm.name = q.1 ∧ IsFirst hm.room hm.bs (want.map (· * q.2)) b e o
def StrR (M : List Hm) (z : Str) (t : Int) (w : Str) (o : Option Int) : Prop := ∃ hm ∈ M, hm.name = w ∧ ∃ em ∈ hm.es, em.x.key = z ∧ ((em.x.e < t ∧ IsFirst hm.room hm.bs em.x.am em.x.e t o) ∨ (¬ em.x.e < t ∧ o = none))
def DueE (M : List Hm) : EDeed → EOut → List Hm → Prop
  | .add z y room kd, o, M' => (z ∈ nmsM M ∧ o = .ref "Taken" ∧ M' = M) ∨ (z ∉ nmsM M ∧ o = .told ∧ M' = M ++ [⟨z, y, kd, Str.ofString "open", room, []⟩])
  | .lose z, o, M' => (z ∉ nmsM M ∧ o = .ref "NoHouse" ∧ M' = M) ∨ ∃ h ∈ M, h.name = z ∧ ∃ ys : List Str, ys.Perm (h.es.map fun em => em.x.key) ∧ sortedS ys = true ∧ o = .keys ys ∧ M' = loseM z M
  | .state z st, o, M' => (z ∉ nmsM M ∧ o = .ref "NoHouse" ∧ M' = M) ∨ (z ∈ nmsM M ∧ o = .told ∧ M' = M.map (setH z st))
  | .book z _ _ _ _ ln want pl bg, o, M' => (Booked M z ∧ o = .ref "Taken" ∧ M' = M) ∨ (¬ Booked M z ∧ (∃ q ∈ pl, q.1 ∉ nmsM M) ∧ o = .ref "NoHouse" ∧ M' = M) ∨
      (¬ Booked M z ∧ (∀ q ∈ pl, q.1 ∈ nmsM M) ∧ ∃ f, FirstOf (BkR M bg (bg + ln) want) pl f ∧ KeptE M (M.map (bookH z bg (bg + ln) want pl)) f o M')
  | .cut z t, o, M' => (¬ Booked M z ∧ o = .ref "NoGang" ∧ M' = M) ∨ (Booked M z ∧ o = .told ∧ M' = M.map (cutH z t))
  | .stretch z t, o, M' => (¬ Booked M z ∧ o = .ref "NoGang" ∧ M' = M) ∨ (Booked M z ∧ ∃ ys, Sites M z ys ∧ ∃ f, FirstOf (StrR M z t) ys f ∧ KeptE M (M.map (retH (strF z t))) f o M')
  | .free z, o, M' => (¬ Booked M z ∧ o = .ref "NoGang" ∧ M' = M) ∨ (Booked M z ∧ o = .told ∧ M' = freeM z M)
  | .forget t, o, M' => ∃ ys : List Str, ys.Nodup ∧ sortedS ys = true ∧ (∀ z, z ∈ ys ↔ Gone M t z) ∧ o = .keys ys ∧ M' = M.map (pastH t)
theorem sorted_one {xs ys : List Str} (p : xs.Perm ys) (hx : sortedS xs = true) (hy : sortedS ys = true) : xs = ys := pw_uniq p (sorted_pw hx) (sorted_pw hy)
theorem log_smallE {n : Int} (h0 : 0 ≤ n) (h1 : n ≤ 2000000000) : n.natAbs.log2 < 1920 := by
  by_cases z : n.natAbs = 0
  · rw [z]
    decide
  · exact (Nat.log2_lt z).mpr (Nat.lt_of_lt_of_le (show n.natAbs < 2 ^ 31 by omega) (Nat.pow_le_pow_right (by decide) (by decide)))
/-- the houses by what a name tells -/
theorem hm_uniq {M : List Hm} (nd : (M.map (·.name)).Nodup) {h g : Hm} (hh : h ∈ M) (hg : g ∈ M) (e : h.name = g.name) : h = g := nodup_inj nd h hh g hg e
theorem em_uniq {h : Hm} (nd : (h.bs.map (·.key)).Nodup) {x y : Em} (hx : x ∈ h.es) (hy : y ∈ h.es) (e : x.x.key = y.x.key) : x = y := by
  have : (h.es.map fun em => em.x.key).Nodup := by
    have e1 : h.bs.map (·.key) = h.es.map fun em => em.x.key := by
      unfold Hm.bs
      rw [List.map_map]
      rfl
    rw [← e1]
    exact nd
  exact nodup_inj this x hx y hy e
structure MGood (hn gn : List Str) (w : Nat) (M : List Hm) : Prop where
  good : EGood M
  each : ∀ h ∈ M, BGood gn h.room h.bs
  room : ∀ h ∈ M, h.room.length = w
  nm : ∀ h ∈ M, h.name ∈ hn
/-- the names that are drawn from -/
structure Nms (hn gn : List Str) (w : Nat) : Prop where
  hl : hn.length ≤ 50
  gl : gn.length ≤ 50
  ho : ∀ z ∈ hn, PySem.PyData.strOk z = true ∧ z.length ≤ 100
  go : ∀ z ∈ gn, PySem.PyData.strOk z = true ∧ z.length ≤ 100
  w1 : 1 ≤ w
  w2 : w ≤ 20
def EDeedOk (hn gn : List Str) (w : Nat) : EDeed → Prop
  | .add z _ room _ => z ∈ hn ∧ room.length = w ∧ ∀ n ∈ room, (0 : Int) ≤ n
  | .lose z => z ∈ hn
  | .state z _ => z ∈ hn
  | .book z _ _ _ _ ln want pl bg => z ∈ gn ∧ want.length = w ∧ (∀ n ∈ want, (0 : Int) ≤ n) ∧ 0 < ln ∧ 0 ≤ bg ∧ bg + ln ≤ 2000000000 ∧ pl ≠ [] ∧ sortedS (pl.map (·.1)) = true ∧ (pl.map (·.1)).Nodup ∧ ∀ q ∈ pl, q.1 ∈ hn ∧ 0 ≤ q.2 ∧ q.2 ≤ 1000000000
  | .cut z _ => z ∈ gn
  | .stretch z t => z ∈ gn ∧ 0 ≤ t ∧ t ≤ 2000000000
  | .free z => z ∈ gn
  | .forget _ => True
section
variable {hn gn : List Str} {w : Nat} {M M' : List Hm}
theorem MGood.bs_nd (G : MGood hn gn w M) {h : Hm} (hh : h ∈ M) : (h.bs.map (·.key)).Nodup := (G.each h hh).nd
theorem bs_mem {h : Hm} {em : Em} (he : em ∈ h.es) : em.x ∈ h.bs := List.mem_map.mpr ⟨em, he, rfl⟩
theorem keys_es (h : Hm) : h.bs.map (·.key) = h.es.map fun em => em.x.key := by
  unfold Hm.bs
  rw [List.map_map]
  rfl
/-! what is good stays so -/
theorem MGood.sub {M' : List Hm} (s : M'.Sublist M) (G : MGood hn gn w M) : MGood hn gn w M' :=
  ⟨G.good.sub s, fun h hh => G.each h (s.subset hh), fun h hh => G.room h (s.subset hh), fun h hh => G.nm h (s.subset hh)⟩
theorem MGood.map {g : Hm → Hm} (G : MGood hn gn w M) (gn' : ∀ h, (g h).name = h.name) (gr : ∀ h, (g h).room = h.room) (E : EGood (M.map g)) (B : ∀ h ∈ M, BGood gn h.room (g h).bs) : MGood hn gn w (M.map g) := by
  refine ⟨E, fun h hh => ?_, fun h hh => ?_, fun h hh => ?_⟩
  · obtain ⟨h0, m0, rfl⟩ := List.mem_map.mp hh
    rw [gr]
    exact B h0 m0
  · obtain ⟨h0, m0, rfl⟩ := List.mem_map.mp hh
    rw [gr]
    exact G.room h0 m0
  · obtain ⟨h0, m0, rfl⟩ := List.mem_map.mp hh
    rw [gn']
    exact G.nm h0 m0
theorem MGood.es_few (G : MGood hn gn w M) (N : Nms hn gn w) {h : Hm} (hh : h ∈ M) : h.es.length ≤ 50 := by
  have nd := G.bs_nd hh
  have this := nodup_len (xs := h.bs.map (·.key)) (ys := gn) nd fun z hz => by
    obtain ⟨x, hx, rfl⟩ := List.mem_map.mp hz
    exact (G.each h hh).key x hx
  rw [keys_es, List.length_map] at this
  exact Nat.le_trans this N.gl
theorem MGood.booked_in (G : MGood hn gn w M) {z : Str} (h : Booked M z) : z ∈ gn := by
  obtain ⟨hm, h1, em, h2, rfl⟩ := h
  exact (G.each hm h1).key em.x (bs_mem h2)
theorem MGood.gangs (G : MGood hn gn w M) (N : Nms hn gn w) {zs : List Str} (nd : zs.Nodup) (h : ∀ y ∈ zs, Booked M y) : zs.length ≤ 50 := by
  exact Nat.le_trans (nodup_len nd fun z hz => G.booked_in (h z hz)) N.gl
theorem MGood.few (G : MGood hn gn w M) (N : Nms hn gn w) : M.length ≤ 50 := by
  have this := nodup_len (xs := M.map (·.name)) (ys := hn) G.good.nd fun z hz => by
    obtain ⟨h, hh, rfl⟩ := List.mem_map.mp hz
    exact G.nm h hh
  rw [List.length_map] at this
  exact Nat.le_trans this N.hl
theorem MGood.lim (G : MGood hn gn w M) : ∀ h ∈ M, ∀ em ∈ h.es, em.x.b.natAbs.log2 < 1920 ∧ em.x.e.natAbs.log2 < 1920 := fun h hh em he => by
  have g := G.each h hh
  have h1 := g.tm em.x (bs_mem he)
  have h2 := g.lt em.x (bs_mem he)
  exact ⟨log_smallE h1.1 (by omega), log_smallE (by omega) h1.2⟩
theorem not_key (nb : ¬ Booked M z) {h : Hm} (hh : h ∈ M) : z ∉ keysB h.bs := fun k => by
  obtain ⟨x, hx, e⟩ := List.mem_map.mp k
  obtain ⟨em, he, rfl⟩ := List.mem_map.mp hx
  exact nb ⟨h, hh, em, he, e⟩
theorem book_bs {z : Str} {b e : Int} {want : List Int} {pl : List (Str × Int)} (nd : (pl.map (·.1)).Nodup) {h : Hm} {q : Str × Int} (hq : q ∈ pl) (hn : h.name = q.1) : (bookH z b e want pl h).bs = h.bs ++ [xOf z b e want q.2] := by
  rw [book_in nd hq hn]
  unfold Hm.bs
  rw [List.map_append]
  rfl
/-- a relation for each house: the entries without the gang's, or with its end cut -/
theorem cut_bs {z : Str} {t : Int} {h : Hm} : (cutH z t h).bs = (h.bs.filter fun x => decide (¬ (x.key = z ∧ t ≤ x.b))).map fun x => ⟨x.key, x.b, cutF z t x.key x.e, x.am⟩ := by
  unfold cutH
  rw [ret_bs]
  congr 1
  unfold Hm.bs
  rw [List.filter_map]
  rfl
theorem MGood.due (N : Nms hn gn w) (G : MGood hn gn w M) {d : EDeed} {o : EOut} (ok : EDeedOk hn gn w d) (h : DueE M d o M') : MGood hn gn w M' := by
  have room : M.length < 60 := Nat.lt_of_le_of_lt (G.few N) (by decide)
  cases d with
  | add z y rm kd =>
    rcases h with ⟨_, _, rfl⟩ | ⟨nz, _, rfl⟩
    · exact G
    · obtain ⟨k1, k2, k3⟩ := ok
      have mem : ∀ h ∈ M ++ [(⟨z, y, kd, Str.ofString "open", rm, []⟩ : Hm)], h ∈ M ∨ h = ⟨z, y, kd, Str.ofString "open", rm, []⟩ := fun h hh => (List.mem_append.mp hh).imp_right List.mem_singleton.mp
      have E := G.good
      refine ⟨⟨?_, ?_, fun h hh => ?_, fun h hh em he => ?_, fun h hh h' hh' em he em' he' k => ?_, fun h hh n hn => ?_⟩, fun h hh => ?_, fun h hh => ?_, fun h hh => ?_⟩
      · rw [List.length_append]
        exact room
      · rw [List.map_append]
        refine List.nodup_append.mpr ⟨E.nd, by simp, fun x hx w hw e1 => nz ?_⟩
        have w1 : w = z := by simpa using hw
        rw [← w1, ← e1]
        exact hx
      · rcases mem h hh with h1 | rfl
        · exact E.nm h h1
        · exact (N.ho z k1).2
      · rcases mem h hh with h1 | rfl
        · exact E.keys h h1 em he
        · cases he
      · rcases mem h hh with h1 | rfl
        · rcases mem h' hh' with h2 | rfl
          · exact E.same h h1 h' h2 em he em' he' k
          · cases he'
        · cases he
      · rcases mem h hh with h1 | rfl
        · exact E.nn h h1 n hn
        · exact k3 n hn
      · rcases mem h hh with h1 | rfl
        · exact G.each h h1
        · exact BGood.nil k3
      · rcases mem h hh with h1 | rfl
        · exact G.room h h1
        · exact k2
      · rcases mem h hh with h1 | rfl
        · exact G.nm h h1
        · exact k1
  | lose z =>
    rcases h with ⟨_, _, rfl⟩ | ⟨hm, _, _, ys, _, _, _, rfl⟩
    · exact G
    · exact G.sub (List.filter_sublist)
  | state z st =>
    rcases h with ⟨_, _, rfl⟩ | ⟨_, _, rfl⟩
    · exact G
    · refine G.map (set_name z st) (set_room z st) ?_ fun h hh => ?_
      · have E := G.good
        refine ⟨by rw [List.length_map]; exact E.few, ?_, fun h hh => ?_, fun h hh em he => ?_, fun h hh h' hh' em he em' he' k => ?_, fun h hh n hn => ?_⟩
        · rw [List.map_map]
          have : M.map ((fun h : Hm => h.name) ∘ setH z st) = M.map (·.name) := List.map_congr_left fun h _ => set_name _ _ h
          rw [this]
          exact E.nd
        · obtain ⟨h0, m0, rfl⟩ := List.mem_map.mp hh
          rw [set_name]
          exact E.nm h0 m0
        · obtain ⟨h0, m0, rfl⟩ := List.mem_map.mp hh
          rw [set_es] at he
          exact E.keys h0 m0 em he
        · obtain ⟨h0, m0, rfl⟩ := List.mem_map.mp hh
          obtain ⟨h1, m1, rfl⟩ := List.mem_map.mp hh'
          rw [set_es] at he he'
          exact E.same h0 m0 h1 m1 em he em' he' k
        · obtain ⟨h0, m0, rfl⟩ := List.mem_map.mp hh
          rw [set_room] at hn
          exact E.nn h0 m0 n hn
      · have : (setH z st h).bs = h.bs := by
          unfold Hm.bs
          rw [set_es]
        rw [this]
        exact G.each h hh
  | book z gd hw rk mn ln want pl bg =>
    obtain ⟨k1, k2, k3, k4, k5, k6, k7, k8, k9, k10⟩ := ok
    rcases h with ⟨_, _, rfl⟩ | ⟨_, _, _, rfl⟩ | ⟨nb, all, f, hf, hk⟩
    · exact G
    · exact G
    · cases f with
      | some t =>
        obtain ⟨_, rfl⟩ := hk
        exact G
      | none =>
        obtain ⟨_, rfl⟩ := hk
        have E := G.good
        have bkb : Bkbl M z bg (bg + ln) want pl := by
          refine ⟨(N.go z k1).2, by omega, ⟨?_, ?_⟩, G.lim, fun h hh => (G.room h hh).trans k2.symm, fun h hh => ?_, k9, k7, ?_, fun q hq => ?_, fun q hq => (k10 q hq).2, fun zs nd hb => ?_⟩
          · exact log_smallE k5 (by omega)
          · exact log_smallE (by omega) k6
          · have := G.es_few N hh
            omega
          · have this := nodup_len (xs := pl.map (·.1)) (ys := hn) k9 fun z hz => by
              obtain ⟨q, hq, rfl⟩ := List.mem_map.mp hz
              exact (k10 q hq).1
            rw [List.length_map] at this
            have := N.hl
            omega
          · exact ⟨(N.ho _ (k10 q hq).1).2, (N.ho _ (k10 q hq).1).1⟩
          · have := G.gangs N nd hb
            omega
        refine G.map (book_name z bg (bg + ln) want pl) (book_room z bg (bg + ln) want pl) (E.book bkb nb) fun h hh => ?_
        by_cases c : h.name ∈ pl.map (·.1)
        · obtain ⟨q, hq, hn'⟩ := List.mem_map.mp c
          obtain ⟨gm, g1, g2, g3⟩ := hf q hq
          have := hm_uniq E.nd g1 hh (g2.trans hn')
          subst this
          have B := G.each gm g1
          have nk := not_key nb g1
          have lam : (xOf z bg (bg + ln) want q.2).am.length = gm.room.length := by
            show (want.map _).length = _
            rw [List.length_map, k2, G.room gm g1]
          rw [book_bs k9 hq hn'.symm, ← putR_new (x := xOf z bg (bg + ln) want q.2) nk]
          refine B.put (by show bg < bg + ln; omega) lam (fun n hn => ?_) ⟨k5, k6⟩ k1 (fit_new lam B.fit nk g3)
          obtain ⟨m, hm, rfl⟩ := List.mem_map.mp hn
          exact Int.mul_nonneg (k3 m hm) (k10 q hq).2.1
        · rw [book_out c]
          exact G.each h hh
  | cut z t =>
    rcases h with ⟨_, _, rfl⟩ | ⟨_, _, rfl⟩
    · exact G
    · refine G.map (fun _ => rfl) (fun _ => rfl) ?_ fun h hh => ?_
      · have E1 := G.good.fewer (g := fun h => { h with es := h.es.filter fun em => decide (¬ (em.x.key = z ∧ t ≤ em.x.b)) }) (fun _ => rfl) (fun _ => rfl) fun h _ em he => (List.mem_filter.mp he).1
        have E2 := E1.ret (cutF z t)
        rw [List.map_map] at E2
        exact E2
      · rw [cut_bs]
        have B0 := (G.each h hh).filter fun x => decide (¬ (x.key = z ∧ t ≤ x.b))
        have mem0 : ∀ x ∈ h.bs.filter (fun x => decide (¬ (x.key = z ∧ t ≤ x.b))), ¬ (x.key = z ∧ t ≤ x.b) := fun x hx => of_decide_eq_true (List.mem_filter.mp hx).2
        generalize h.bs.filter (fun x => decide (¬ (x.key = z ∧ t ≤ x.b))) = rs at B0 mem0
        by_cases ex : ∃ x ∈ rs, x.key = z ∧ t < x.e
        · obtain ⟨x, hx, hk, hlt⟩ := ex
          have hb : x.b < t := by
            have := mem0 x hx
            by_cases c : t ≤ x.b
            · exact absurd ⟨hk, c⟩ this
            · omega
          have e1 : (rs.map fun y => (⟨y.key, y.b, cutF z t y.key y.e, y.am⟩ : Bw)) = putR rs ⟨x.key, x.b, t, x.am⟩ := by
            have e2 : cutF z t x.key x.e = t := if_pos ⟨hk, hlt⟩
            have := ret_put (f := cutF z t) B0.nd hx hk (fun k e n => if_neg fun h => n h.1)
            rw [e2] at this
            exact this.symm
          rw [e1]
          have tm := B0.tm x hx
          exact B0.put hb (B0.len x hx) (B0.nn x hx) ⟨tm.1, by show t ≤ _; omega⟩ (B0.key x hx) (fit_short B0.nn B0.nd hx hlt B0.fit)
        · have e1 : (rs.map fun y => (⟨y.key, y.b, cutF z t y.key y.e, y.am⟩ : Bw)) = rs := ret_same fun y hy => if_neg fun h => ex ⟨y, hy, h⟩
          rw [e1]
          exact B0
  | stretch z t =>
    obtain ⟨k1, k2, k3⟩ := ok
    rcases h with ⟨_, _, rfl⟩ | ⟨bk, ys, st, f, hf, hk⟩
    · exact G
    · cases f with
      | some t =>
        obtain ⟨_, rfl⟩ := hk
        exact G
      | none =>
        obtain ⟨_, rfl⟩ := hk
        refine G.map (fun _ => rfl) (fun _ => rfl) (G.good.ret _) fun h hh => ?_
        have B := G.each h hh
        by_cases ex : ∃ em ∈ h.es, em.x.key = z
        · obtain ⟨em, he, hk⟩ := ex
          obtain ⟨gm, g1, g2, en, g3, g4, g5⟩ := hf h.name ((st.is _).mpr ⟨h, hh, rfl, em, he, hk⟩)
          have := hm_uniq G.good.nd g1 hh g2
          subst this
          have := em_uniq B.nd g3 he (g4.trans hk.symm)
          subst this
          rcases g5 with ⟨hlt, g5⟩ | ⟨nlt, _⟩
          · rw [← str_put B.nd (bs_mem he) hk hlt]
            have lt := B.lt _ (bs_mem he)
            have tm := B.tm _ (bs_mem he)
            exact B.put (x := longer en.x t) (by show en.x.b < t; omega) (B.len en.x (bs_mem he)) (B.nn en.x (bs_mem he)) ⟨tm.1, k3⟩ (B.key en.x (bs_mem he)) (fit_long (B.len _ (bs_mem he)) B.nd (bs_mem he) lt hlt B.fit g5)
          · rw [str_stay B.nd (bs_mem he) hk nlt]
            exact B
        · rw [str_out fun em he k => ex ⟨em, he, k⟩]
          exact B
  | free z =>
    rcases h with ⟨_, _, rfl⟩ | ⟨_, _, rfl⟩
    · exact G
    · refine G.map (g := freeH z) (fun _ => rfl) (fun _ => rfl) (G.good.fewer (fun _ => rfl) (fun _ => rfl) fun h _ em he => (List.mem_filter.mp he).1) fun h hh => ?_
      rw [free_bs]
      exact (G.each h hh).filter _
  | forget t =>
    obtain ⟨ys, _, _, _, _, rfl⟩ := h
    refine G.map (g := pastH t) (fun _ => rfl) (fun _ => rfl) (G.good.fewer (fun _ => rfl) (fun _ => rfl) fun h _ em he => (List.mem_filter.mp he).1) fun h hh => ?_
    rw [past_bs]
    exact (G.each h hh).filter _
end
end My
set_option maxHeartbeats 1000000
/-! the law's own keeping of an estate: what is altered -/
namespace My
open PySem PySem.W PySem.Spec PyProof.Rows L2 GX GxR
def mfoot (D : Addr) (L : List Md2) : List Addr := D :: (L.map (·.1.a) ++ L.map (·.1.d))
theorem mfoot_mem {D x : Addr} {L : List Md2} : x ∈ mfoot D L ↔ x = D ∨ ∃ p ∈ L, x = p.1.a ∨ x = p.1.d := by
  unfold mfoot
  simp only [List.mem_cons, List.mem_append, List.mem_map]
  constructor
  · rintro (h | ⟨p, hp, h⟩ | ⟨p, hp, h⟩)
    · exact .inl h
    · exact .inr ⟨p, hp, .inl h.symm⟩
    · exact .inr ⟨p, hp, .inr h.symm⟩
  · rintro (h | ⟨p, hp, h | h⟩)
    · exact .inl h
    · exact .inr (.inl ⟨p, hp, h.symm⟩)
    · exact .inr (.inr ⟨p, hp, h.symm⟩)
/-- the house h at p's places -/
def MInAt (H : Hp) (p : Md2) (h : Hm) : Prop := ∃ x : MAd, x.a = p.1.a ∧ x.d = p.1.d ∧ MhAt H x h
def onH (n : Str) (f : Hm → Hm) (h : Hm) : Hm := if h.name = n then f h else h
def MAfter (H : Hp) (D : Addr) (L : List Md2) (M' : List Hm) (H' : Hp) : Prop := ∃ L1, Kp (mfoot D L) H H' ∧ MdAt H' D L1 ∧ L1.map (·.2) = M' ∧ (∀ x ∈ mfoot D L1, x ∈ mfoot D L ∨ H x = none) ∧ ∀ x ∈ mfoot D L, H' x ≠ none
section
variable {H H' H2 : Hp} {D : Addr} {L : List Md2}
theorem MdAt.kind (B : MdAt H D L) {x : Addr} (hx : x ∈ mfoot D L) : ∃ kv, H x = some (.dK kv) := by
  rcases mfoot_mem.mp hx with rfl | ⟨p, hp, rfl | rfl⟩
  · exact ⟨_, B.obj⟩
  · exact ⟨_, (B.each p hp).obj⟩
  · exact ⟨_, (B.each p hp).en⟩
theorem MdAt.tup (B : MdAt H D L) {S : List Addr} (hS : ∀ x ∈ S, x ∈ mfoot D L) (k : Kp S H H') : KTu H H' := fun q xs e => k _ _ (fun z => by
  obtain ⟨kv, h⟩ := B.kind (hS q z)
  rw [h] at e
  cases e) e
/-- anything that is no dict there -/
theorem MdAt.off (B : MdAt H D L) {S : List Addr} (hS : ∀ x ∈ S, x ∈ mfoot D L) (k : Kp S H H') {q : Addr} {o : HO} (e : H q = some o) (n : ∀ kv, o ≠ .dK kv) : H' q = some o := k _ _ (fun z => by
  obtain ⟨kv, h⟩ := B.kind (hS q z)
  rw [h] at e
  exact n kv (Option.some.inj e).symm) e
theorem MAfter.refl {s : Same H H'} (B : MdAt H D L) : MAfter H D L (L.map (·.2)) H' := ⟨L, Same.kp _ s, B.same s, rfl, (fun x hx => .inl hx), fun x hx e => by
  obtain ⟨kv, h⟩ := (B.same s).kind hx
  rw [e] at h
  cases h⟩
theorem MAfter.then {M' : List Hm} (a : MAfter H D L M' H') (s : Same H' H2) : MAfter H D L M' H2 := by
  obtain ⟨L1, k, B, e, f, g⟩ := a
  refine ⟨L1, k.trans (Same.kp _ s), B.same s, e, f, fun x hx n => ?_⟩
  cases h : H' x with
  | none => exact g x hx h
  | some o =>
    rw [s _ _ h] at n
    cases n
theorem MAfter.free {M' : List Hm} (a : MAfter H D L M' H') {p : Addr} (n : H' p = none) : H p = none := by
  obtain ⟨L1, k, B, e, f, g⟩ := a
  cases h : H p with
  | none => rfl
  | some o =>
    have := k _ _ (fun z => g p z n) h
    rw [n] at this
    cases this
theorem MAfter.of {M' : List Hm} {L1 : List Md2} (k : Kp (mfoot D L) H H') (B : MdAt H' D L1) (e : L1.map (·.2) = M') (f : mfoot D L1 = mfoot D L) : MAfter H D L M' H' :=
  ⟨L1, k, B, e, (fun x hx => .inl (by rw [← f]; exact hx)), fun x hx n => by
    obtain ⟨kv, h⟩ := B.kind (by rw [f]; exact hx)
    rw [n] at h
    cases h⟩
theorem MdAt.names (B : MdAt H D L) {z : Str} : z ∈ nmsM (L.map (·.2)) ↔ ∃ p ∈ L, p.2.name = z := by
  unfold nmsM
  rw [List.map_map, List.mem_map]
  exact Iff.rfl
theorem MdAt.has (B : MdAt H D L) {z : Str} : (valV (mkv L) (Sum.inr z : Key)).isSome = decide (z ∈ nmsM (L.map (·.2))) := by
  have g : (valV (mkv L) (Sum.inr z : Key)).isSome = true ↔ z ∈ nmsM (L.map (·.2)) := by
    unfold nmsM
    rw [List.map_map]
    exact plk_val (mkv_keys L) B.nd
  cases h9 : (valV (mkv L) (Sum.inr z : Key)).isSome with
  | true => exact (decide_eq_true (g.mp h9)).symm
  | false => exact (decide_eq_false fun h => by rw [g.mpr h] at h9; cases h9).symm
theorem MdAt.inplace {g : Hm → Hm} (gn : ∀ h, (g h).name = h.name) (B : MdAt H D L) (o : H' D = some (.dK (mkv L))) (each : ∀ p ∈ L, MInAt H' p (g p.2)) : ∃ L1, MdAt H' D L1 ∧ L1.map (·.2) = (L.map (·.2)).map g ∧ mfoot D L1 = mfoot D L := by
  obtain ⟨L1, pr⟩ : ∃ L1 : List Md2, Paired (fun p q : Md2 => q.1.a = p.1.a ∧ q.1.d = p.1.d ∧ q.2 = g p.2 ∧ MhAt H' q.1 q.2) L L1 := choose_list fun p hp => by
    obtain ⟨x, h1, h3, h4⟩ := each p hp
    exact ⟨(x, g p.2), h1, h3, rfl, h4⟩
  have eM : L1.map (·.2) = (L.map (·.2)).map g := by
    rw [List.map_map]
    exact paired_map (fun a b r => r.2.2.1) pr
  have ea : L1.map (·.1.a) = L.map (·.1.a) := paired_map (fun a b r => r.1) pr
  have ed : L1.map (·.1.d) = L.map (·.1.d) := paired_map (fun a b r => r.2.1) pr
  have en : L1.map (·.2.name) = L.map (·.2.name) := paired_map (fun a b r => by rw [r.2.2.1, gn]) pr
  have ek : mkv L1 = mkv L := paired_map (f := fun p : Md2 => ((Sum.inr p.2.name : Key), V.ref p.1.a)) (g := fun p : Md2 => ((Sum.inr p.2.name : Key), V.ref p.1.a)) (fun a b r => by rw [r.1, r.2.2.1, gn]) pr
  have el : L1.length = L.length := by have := congrArg List.length ea; rwa [List.length_map, List.length_map] at this
  refine ⟨L1, ⟨by rw [ek]; exact o, fun q hq => ?_, by rw [en]; exact B.nd, by rw [ea, ed]; exact B.dicts, by rw [el]; exact B.few⟩, eM, ?_⟩
  · obtain ⟨p, _, r⟩ := paired_mem pr q hq
    exact r.2.2.2
  · unfold mfoot
    rw [ea, ed]
theorem MdAt.sep (B : MdAt H D L) {p q : Md2} (hp : p ∈ L) (hq : q ∈ L) : p.1.a ≠ q.1.d ∧ p.1.a ≠ D ∧ p.1.d ≠ D := by
  have dn := B.dicts
  rw [List.nodup_cons, List.nodup_append] at dn
  exact ⟨dn.2.2.2 _ (List.mem_map.mpr ⟨p, hp, rfl⟩) _ (List.mem_map.mpr ⟨q, hq, rfl⟩), fun e1 => dn.1 (by rw [← e1]; exact List.mem_append_left _ (List.mem_map.mpr ⟨p, hp, rfl⟩)), fun e1 => dn.1 (by rw [← e1]; exact List.mem_append_right _ (List.mem_map.mpr ⟨p, hp, rfl⟩))⟩
theorem MdAt.sa (B : MdAt H D L) : (L.map (·.1.a)).Nodup := by
  have dn := B.dicts
  rw [List.nodup_cons, List.nodup_append] at dn
  exact dn.2.1
theorem MdAt.sd (B : MdAt H D L) : (L.map (·.1.d)).Nodup := by
  have dn := B.dicts
  rw [List.nodup_cons, List.nodup_append] at dn
  exact dn.2.2.1
theorem MdAt.nd2 (B : MdAt H D L) : ∀ p ∈ L, ∀ q ∈ L, p.2.name = q.2.name → p = q := fun p hp q hq e => nodup_inj B.nd p hp q hq e
end
/-! entries by their keys -/
end My
set_option maxHeartbeats 1000000
/-! deeds on an estate, and what they come to, in the heap -/
namespace My
open PySem PySem.W PySem.Spec PyProof.Rows L2 GX GxR
def EDeedAt (H : Hp) (p : Addr) : EDeed → Prop
  | .add z y room kd => ∃ m, H p = some (.tup [.str "add", .str z, .str y, .ref m, optS kd]) ∧ H m = some (.tup (room.map V.int))
  | .lose z => H p = some (.tup [.str "lose", .str z])
  | .state z st => H p = some (.tup [.str "state", .str z, .str st])
  | .book z gd hw rk mn ln want pl bg => ∃ gt wt pt vs, H p = some (.tup [.str "book", .ref gt, .ref pt, .int bg]) ∧ H gt = some (.tup [.str z, .str gd, .int rk, .int mn, .ref wt, .str hw, .int ln]) ∧ H wt = some (.tup (want.map V.int)) ∧ H pt = some (.tup vs) ∧ PairVs H vs pl
  | .cut z t => H p = some (.tup [.str "cut", .str z, .int t])
  | .stretch z t => H p = some (.tup [.str "stretch", .str z, .int t])
  | .free z => H p = some (.tup [.str "free", .str z])
  | .forget t => H p = some (.tup [.str "forget", .int t])
theorem EDeedAt.kt {H H' : Hp} {p : Addr} {d : EDeed} (k : KTu H H') (h : EDeedAt H p d) : EDeedAt H' p d := by
  cases d with
  | add z y room kd =>
    obtain ⟨m, h1, h2⟩ := h
    exact ⟨m, k _ _ h1, k _ _ h2⟩
  | book z gd hw rk mn ln want pl bg =>
    obtain ⟨gt, wt, pt, vs, h1, h2, h3, h4, h5⟩ := h
    exact ⟨gt, wt, pt, vs, k _ _ h1, k _ _ h2, k _ _ h3, k _ _ h4, h5.kt k⟩
  | lose z => exact k _ _ h
  | state z st => exact k _ _ h
  | cut z t => exact k _ _ h
  | stretch z t => exact k _ _ h
  | free z => exact k _ _ h
  | forget t => exact k _ _ h
/-- what a deed comes to, as it is told -/
def EOutAt (H : Hp) (t : Addr) : EOut → Prop
  | .told => H t = some (.tup [.str "told", .non])
  | .keys zs => ∃ l, H t = some (.tup [.str "told", .ref l]) ∧ H l = some (.lst (zs.map V.str))
  | .ref w => H t = some (.tup [.str "refused", .str w, .non])
  | .over x => H t = some (.tup [.str "refused", .str "TooMuch", .int x])
theorem EOutAt.same {H H' : Hp} {t : Addr} {o : EOut} (s : Same H H') (h : EOutAt H t o) : EOutAt H' t o := by
  cases o with
  | told => exact s _ _ h
  | keys zs =>
    obtain ⟨l, h1, h2⟩ := h
    exact ⟨l, s _ _ h1, s _ _ h2⟩
  | ref w => exact s _ _ h
  | over x => exact s _ _ h
/-- a law's own deed: what it leaves -/
def MDeed (hn gn : List Str) (w : Nat) (H : Hp) (D : Addr) (L : List Md2) (d : EDeed) (Q : VK) : Prop := Nms hn gn w ∧ MdAt H D L ∧ MGood hn gn w (L.map (·.2)) ∧ EDeedOk hn gn w d ∧
  ∀ t o M' H', DueE (L.map (·.2)) d o M' → H t = none → EOutAt H' t o → MAfter H D L M' H' → Q (.ref t) H'
theorem MdAt.new {H : Hp} {D p : Addr} {L : List Md2} (B : MdAt H D L) (n : H p = none) : p ∉ mfoot D L := fun z => by
  obtain ⟨kv, h⟩ := B.kind z
  rw [n] at h
  cases h
/-! a house after another altered -/
/-! what is past, one entry after another -/
/-- the gangs that are gone so far -/
structure GoneI (M Mc : List Hm) (t : Int) (gone : List Str) : Prop where
  nd : gone.Nodup
  is : ∀ z, z ∈ gone ↔ Gone M t z ∧ ¬ Booked Mc z
theorem GoneI.nil {M : List Hm} {t : Int} : GoneI M M t [] := ⟨.nil, fun z => ⟨(fun h => by cases h), fun ⟨⟨h, h1, em, h2, h3, _⟩, n⟩ => absurd ⟨h, h1, em, h2, h3⟩ n⟩⟩
theorem on_free_booked {M : List Hm} {n z y : Str} (ne : y ≠ z) : Booked (M.map (onH n (freeH z))) y ↔ Booked M y := booked_map fun h _ => by
  unfold onH
  split
  · exact free_alike ne h
  · exact fun m => Iff.rfl
theorem GoneI.keep {M Mc : List Hm} {t : Int} {gone : List Str} {n z : Str} (I : GoneI M Mc t gone) (b0 : Booked Mc z) (b : Booked (Mc.map (onH n (freeH z))) z) : GoneI M (Mc.map (onH n (freeH z))) t gone := by
  refine ⟨I.nd, fun y => ?_⟩
  rw [I.is]
  by_cases h : y = z
  · subst h
    exact ⟨fun g => absurd b0 g.2, fun g => absurd b g.2⟩
  · rw [on_free_booked h]
theorem GoneI.more {M Mc : List Hm} {t : Int} {gone : List Str} {n z : Str} (I : GoneI M Mc t gone) (b0 : Booked Mc z) (g : Gone M t z) (b : ¬ Booked (Mc.map (onH n (freeH z))) z) : GoneI M (Mc.map (onH n (freeH z))) t (gone ++ [z]) := by
  refine ⟨List.nodup_append.mpr ⟨I.nd, by simp, fun a ha c hc e => ?_⟩, fun y => ?_⟩
  · have : c = z := by simpa using hc
    rw [e, this] at ha
    exact ((I.is z).mp ha).2 b0
  · rw [List.mem_append, List.mem_singleton, I.is]
    by_cases h : y = z
    · subst h
      exact ⟨fun _ => ⟨g, b⟩, fun _ => .inr rfl⟩
    · rw [on_free_booked h]
      exact ⟨fun k => k.elim _root_.id fun k => absurd k h, .inl⟩
theorem GoneI.done {M : List Hm} {t : Int} {gone : List Str} (G : EGood M) (I : GoneI M (M.map (pastH t)) t gone) : ∀ z, z ∈ gone ↔ Gone M t z := fun z => by
  rw [I.is]
  exact ⟨fun h => h.1, fun h => ⟨h, fun b => (past_booked G).mp b |>.2 h⟩⟩
end My
set_option maxHeartbeats 1000000
/-! the law's keeping: a house more, another state, a house less -/
namespace My
open PySem PySem.W PySem.Spec PyProof.Rows L2 GX GxR
section
variable {H H1 H' : Hp} {D : Addr} {L : List Md2}
theorem MAfter.since {M' : List Hm} (s : Same H H1) (a : MAfter H1 D L M' H') : MAfter H D L M' H' := by
  obtain ⟨L1, k, B, e, f, g⟩ := a
  exact ⟨L1, (Same.kp _ s).trans k, B, e, (fun x hx => (f x hx).imp_right s.free), g⟩
theorem MDeed.same {hn gn : List Str} {w : Nat} {d : EDeed} {Q : VK} (s : Same H H1) (h : MDeed hn gn w H D L d Q) : MDeed hn gn w H1 D L d Q := by
  obtain ⟨N, B, G, ok, q⟩ := h
  exact ⟨N, B.same s, G, ok, fun t o M' H' due nt out aft => q t o M' H' due (s.free nt) out (aft.since s)⟩
theorem MdAt.add (B : MdAt H D L) {z y : Str} {kd : Option Str} {room : List Int} {a d m : Addr} (hz : z ∉ nmsM (L.map (·.2))) (few : L.length < 60) (r1 : 1 ≤ room.length) (r20 : room.length ≤ 20)
    (hm : H m = some (.tup (room.map V.int))) (na : H a = none) (nd : H d = none) (ne : a ≠ d) (k : Kp [D] H H') (ha : H' a = some (.dK (mfl ⟨z, y, kd, Str.ofString "open", room, []⟩ m d))) (hd : H' d = some (.dK [])) (hD : H' D = some (.dK (putK (mkv L) (Sum.inr z : Key) (.ref a)))) :
    MAfter H D L (L.map (·.2) ++ [⟨z, y, kd, Str.ofString "open", room, []⟩]) H' := by
  have kt : KTu H H' := B.tup (S := [D]) (fun x hx => mfoot_mem.mpr (.inl (List.mem_singleton.mp hx))) k
  have hz' : z ∉ L.map (·.2.name) := fun h => hz (by unfold nmsM; rw [List.map_map]; exact h)
  have app : putK (mkv L) (Sum.inr z : Key) (.ref a) = mkv (L ++ [(⟨a, d, m, []⟩, ⟨z, y, kd, Str.ofString "open", room, []⟩)]) := by
    rw [putK_app fun p hp e1 => hz' (by
      unfold mkv at hp
      obtain ⟨q, hq, rfl⟩ := List.mem_map.mp hp
      exact List.mem_map.mpr ⟨q, hq, Sum.inr.inj e1⟩)]
    unfold mkv
    rw [List.map_append]
    rfl
  have dne : ∀ x ∈ mfoot D L, x ≠ a ∧ x ≠ d := fun x hx => by
    obtain ⟨kv, h⟩ := B.kind hx
    exact ⟨(fun e => by rw [e, na] at h; cases h), (fun e => by rw [e, nd] at h; cases h)⟩
  have dn := B.dicts
  rw [List.nodup_cons, List.nodup_append] at dn
  obtain ⟨d1, d2, d3, d4⟩ := dn
  have inA : ∀ x ∈ L.map (·.1.a), x ∈ mfoot D L := fun x hx => List.mem_cons_of_mem _ (List.mem_append_left _ hx)
  have inD : ∀ x ∈ L.map (·.1.d), x ∈ mfoot D L := fun x hx => List.mem_cons_of_mem _ (List.mem_append_right _ hx)
  have DD : D ∈ mfoot D L := List.mem_cons_self
  refine ⟨L ++ [(⟨a, d, m, []⟩, ⟨z, y, kd, Str.ofString "open", room, []⟩)], k.mono fun x hx => by rw [List.mem_singleton.mp hx]; exact DD, ⟨by rw [← app]; exact hD, fun p hp => ?_, ?_, ?_, by rw [List.length_append]; exact few⟩, by rw [List.map_append]; rfl, fun x hx => ?_, fun x hx n => ?_⟩
  · rcases List.mem_append.mp hp with hp | hp
    · exact (B.each p hp).kp k kt (fun e => (B.sep hp hp).2.1 (List.mem_singleton.mp e)) fun e => (B.sep hp hp).2.2 (List.mem_singleton.mp e)
    · rw [List.mem_singleton.mp hp]
      exact ⟨ha, kt _ _ hm, hd, .nil, .nil, (by show 0 < 110; omega), (fun em he => by cases he), r1, r20, ne⟩
  · rw [List.map_append]
    exact List.nodup_append.mpr ⟨B.nd, by simp, fun x hx w hw e => hz' (by
      have : w = z := by simpa using hw
      rw [← this, ← e]
      exact hx)⟩
  · rw [List.map_append, List.map_append, List.nodup_cons, List.nodup_append, List.nodup_append, List.nodup_append]
    refine ⟨fun h => ?_, ⟨d2, by simp, fun x hx w hw e => (dne x (inA x hx)).1 (by rw [e]; simpa using hw)⟩, ⟨d3, by simp, fun x hx w hw e => (dne x (inD x hx)).2 (by rw [e]; simpa using hw)⟩, fun x hx w hw => ?_⟩
    · rcases List.mem_append.mp h with h | h
      · rcases List.mem_append.mp h with h | h
        · exact d1 (List.mem_append_left _ h)
        · exact (dne D DD).1 (by simpa using h)
      · rcases List.mem_append.mp h with h | h
        · exact d1 (List.mem_append_right _ h)
        · exact (dne D DD).2 (by simpa using h)
    · rcases List.mem_append.mp hx with hx | hx <;> rcases List.mem_append.mp hw with hw | hw
      · exact d4 x hx w hw
      · have : w = d := by simpa using hw
        rw [this]
        exact (dne x (inA x hx)).2
      · have : x = a := by simpa using hx
        rw [this]
        exact (dne w (inD w hw)).1.symm
      · have h1 : x = a := by simpa using hx
        have h2 : w = d := by simpa using hw
        rw [h1, h2]
        exact ne
  · rcases mfoot_mem.mp hx with h | ⟨p, hp, h⟩
    · exact .inl (by rw [h]; exact DD)
    · rcases List.mem_append.mp hp with hp | hp
      · exact .inl (mfoot_mem.mpr (.inr ⟨p, hp, h⟩))
      · rw [List.mem_singleton.mp hp] at h
        rcases h with h | h
        · exact .inr (by rw [h]; exact na)
        · exact .inr (by rw [h]; exact nd)
  · by_cases c : x = D
    · rw [c, hD] at n
      cases n
    · obtain ⟨kv, h⟩ := B.kind hx
      have := k _ _ (fun e => c (List.mem_singleton.mp e)) h
      rw [n] at this
      cases this
theorem MdAt.setS (B : MdAt H D L) {p : Md2} (hp : p ∈ L) {st : Str} : MAfter H D L ((L.map (·.2)).map (setH p.2.name st)) (upd H p.1.a (.dK (mfl { p.2 with state := st } p.1.m p.1.d))) := by
  have Bp := B.each p hp
  have k1 : Kp [p.1.a] H (upd H p.1.a (.dK (mfl { p.2 with state := st } p.1.m p.1.d))) := kp_upd (List.mem_singleton.mpr rfl)
  have ea : upd H p.1.a (.dK (mfl { p.2 with state := st } p.1.m p.1.d)) p.1.a = some (.dK (mfl { p.2 with state := st } p.1.m p.1.d)) := upd_same
  generalize upd H p.1.a (.dK (mfl { p.2 with state := st } p.1.m p.1.d)) = H1 at k1 ea ⊢
  have inF : ∀ x ∈ [p.1.a], x ∈ mfoot D L := fun x hx => by
    rw [List.mem_singleton.mp hx]
    exact mfoot_mem.mpr (.inr ⟨p, hp, .inl rfl⟩)
  have kt := B.tup inF k1
  obtain ⟨L1, B1, e1, f1⟩ := B.inplace (g := setH p.2.name st) (set_name _ _) (k1 _ _ (fun z => (B.sep hp hp).2.1 (List.mem_singleton.mp z).symm) B.obj) fun q hq => by
    by_cases e : q = p
    · subst e
      have e1 : setH q.2.name st q.2 = { q.2 with state := st } := if_pos rfl
      rw [e1]
      exact ⟨q.1, rfl, rfl, ea, kt _ _ Bp.rm, k1 _ _ (fun z => Bp.ne (List.mem_singleton.mp z).symm) Bp.en, Bp.prs.mono fun _ _ g => g.kt kt, Bp.nd, Bp.few, Bp.len, Bp.r1, Bp.r20, Bp.ne⟩
    · have e1 : setH p.2.name st q.2 = q.2 := if_neg fun h => e (B.nd2 q hq p hp h)
      rw [e1]
      exact ⟨q.1, rfl, rfl, (B.each q hq).kp k1 kt (fun z => e (nodup_inj B.sa q hq p hp (List.mem_singleton.mp z))) fun z => (B.sep hp hq).1 (List.mem_singleton.mp z).symm⟩
  exact MAfter.of (k1.mono inF) B1 e1 f1
theorem mkv_drop (L : List Md2) (z : Str) : dropK (mkv L) (Sum.inr z : Key) = mkv (L.filter fun p => decide (p.2.name ≠ z)) := by
  unfold dropK mkv
  rw [List.filter_map]
  congr 1
  refine List.filter_congr fun p _ => decide_eq_decide.mpr ?_
  exact not_congr ⟨fun q => Sum.inr.inj q, fun q => congrArg Sum.inr q⟩
theorem MdAt.lose (B : MdAt H D L) (z : Str) : MAfter H D L (loseM z (L.map (·.2))) (upd H D (.dK (dropK (mkv L) (Sum.inr z : Key)))) := by
  have k1 : Kp [D] H (upd H D (.dK (dropK (mkv L) (Sum.inr z : Key)))) := kp_upd (List.mem_singleton.mpr rfl)
  have eD : upd H D (.dK (dropK (mkv L) (Sum.inr z : Key))) D = some (.dK (dropK (mkv L) (Sum.inr z : Key))) := upd_same
  generalize upd H D (.dK (dropK (mkv L) (Sum.inr z : Key))) = H1 at k1 eD ⊢
  have inF : ∀ x ∈ [D], x ∈ mfoot D L := fun x hx => by
    rw [List.mem_singleton.mp hx]
    exact List.mem_cons_self
  have kt := B.tup inF k1
  have sub : (L.filter fun p => decide (p.2.name ≠ z)).Sublist L := List.filter_sublist
  refine ⟨L.filter fun p => decide (p.2.name ≠ z), k1.mono inF, ⟨by rw [← mkv_drop]; exact eD, fun p hp => ?_, B.nd.sublist (sub.map _), B.dicts.sublist ?_, Nat.le_trans sub.length_le B.few⟩, ?_, fun x hx => .inl ?_, fun x hx n => ?_⟩
  · have hp := sub.subset hp
    exact (B.each p hp).kp k1 kt (fun e => (B.sep hp hp).2.1 (List.mem_singleton.mp e)) fun e => (B.sep hp hp).2.2 (List.mem_singleton.mp e)
  · exact List.Sublist.cons₂ _ ((sub.map _).append (sub.map _))
  · unfold loseM
    rw [List.filter_map]
    rfl
  · rcases mfoot_mem.mp hx with h | ⟨p, hp, h⟩
    · exact mfoot_mem.mpr (.inl h)
    · exact mfoot_mem.mpr (.inr ⟨p, sub.subset hp, h⟩)
  · by_cases c : x = D
    · rw [c, eD] at n
      cases n
    · obtain ⟨kv, h⟩ := B.kind hx
      have := k1 _ _ (fun e => c (List.mem_singleton.mp e)) h
      rw [n] at this
      cases this
end
end My
set_option maxHeartbeats 1000000
/-! sum(xs, []) of a list of lists; set(xs) of a list of texts of which only few differ -/
set_option maxHeartbeats 1000000
/-! the gangs that are booked, by rising names -/
namespace My
open PySem PySem.Spec PyProof.Rows L2 GX GxR
theorem passE {X : Cx} : Passes (L2.CX X.prog X.w) X E0 := fun _ _ _ _ _ _ _ h => by
  obtain ⟨_, _, _, _, _, _, _, _, _, _, _, _, f⟩ := h
  exact f.elim
theorem nodup_map_of {α β : Type} {f : α → β} : ∀ {xs : List α}, (xs.map f).Nodup → xs.Nodup
  | [], _ => .nil
  | x :: xs, h => by
    rw [List.map_cons, List.nodup_cons] at h
    exact List.nodup_cons.mpr ⟨fun g => h.1 (List.mem_map.mpr ⟨x, g, rfl⟩), nodup_map_of h.2⟩
/-- the row of a gang that is booked -/
def BrAt (M : List Hm) (H : Hp) (t : Addr) (z : Str) : Prop := ∃ h ∈ M, ∃ em ∈ h.es, em.x.key = z ∧ ∃ u ps, H t = some (.tup [.str z, .int em.x.b, .int em.x.e, .ref u]) ∧ PairsAt H u ps ∧ PlOf M z ps
theorem BrAt.same {M : List Hm} {H H' : Hp} (s : Same H H') {t : Addr} {z : Str} (h : BrAt M H t z) : BrAt M H' t z := by
  obtain ⟨h, h1, em, h2, h3, u, ps, h4, h5, h6⟩ := h
  exact ⟨h, h1, em, h2, h3, u, ps, s _ _ h4, h5.same s, h6⟩
theorem BrAt.put {M : List Hm} {H : Hp} {D t : Addr} {z : Str} {xs ys : List V} (e : H D = some (.lst xs)) (h : BrAt M H t z) : BrAt M (upd H D (.lst ys)) t z := by
  obtain ⟨h, h1, em, h2, h3, u, ps, h4, h5, h6⟩ := h
  have kt : KTu H (upd H D (.lst ys)) := fun q vs hq => by rw [upd_ne (fun g => by rw [g, e] at hq; cases hq)]; exact hq
  have kp : Kp [D] H (upd H D (.lst ys)) := fun q o hn hq => by rw [upd_ne (fun g => hn (List.mem_singleton.mpr g))]; exact hq
  exact ⟨h, h1, em, h2, h3, u, ps, kt _ _ h4, h5.kq2 kp kt (fun x hx o us g => by rw [List.mem_singleton.mp hx, e] at g; cases g), h6⟩
theorem BrAt.kp {M : List Hm} {H H' : Hp} {S : List Addr} (k : Kp S H H') (kt : KTu H H') (ns : ∀ x ∈ S, ∀ o u, H x ≠ some (.frz o u)) {t : Addr} {z : Str} (h : BrAt M H t z) : BrAt M H' t z := by
  obtain ⟨h, h1, em, h2, h3, u, ps, h4, h5, h6⟩ := h
  exact ⟨h, h1, em, h2, h3, u, ps, kt _ _ h4, h5.kq2 k kt ns, h6⟩
/-- their names -/
structure BNms (M : List Hm) (zs : List Str) : Prop where
  nd : zs.Nodup
  so : sortedS zs = true
  is : ∀ z, z ∈ zs ↔ Booked M z
end My
set_option maxHeartbeats 1000000
/-! what is left in a stretch, by the begins within alone -/
namespace My
open PySem PySem.Spec PyProof.Rows L2 GX GxR
theorem col_mono {j : Nat} {t u : Int} : ∀ {rs : List Bw}, NN rs → (∀ x ∈ rs, liveAt t x = true → liveAt u x = true) → col j rs t ≤ col j rs u
  | [], _, _ => Int.le_refl _
  | x :: rs, nn, h => by
    have ih := col_mono (j := j) (t := t) (u := u) (rs := rs) (fun y hy => nn y (List.mem_cons_of_mem _ hy)) fun y hy => h y (List.mem_cons_of_mem _ hy)
    have nx : 0 ≤ x.am.getD j 0 := by
      rw [List.getD_eq_getElem?_getD]
      cases hx : x.am[j]? with
      | none => exact Int.le_refl _
      | some n => exact nn x List.mem_cons_self n (List.mem_of_getElem? hx)
    have hx := h x List.mem_cons_self
    unfold col at ih ⊢
    rw [List.filter_cons, List.filter_cons]
    cases h1 : liveAt t x with
    | true =>
      rw [hx h1]
      simp only [if_true, List.map_cons, List.sum_cons]
      omega
    | false =>
      cases h2 : liveAt u x with
      | true =>
        simp only [if_true, Bool.false_eq_true, if_false, List.map_cons, List.sum_cons]
        omega
      | false =>
        simp only [Bool.false_eq_true, if_false]
        exact ih
theorem max_le {t : Int} : ∀ {ts : List Int}, (∃ b ∈ ts, b ≤ t) → ∃ u ∈ ts, u ≤ t ∧ ∀ v ∈ ts, v ≤ t → v ≤ u
  | [], h => by obtain ⟨_, h, _⟩ := h; cases h
  | a :: ts, h => by
    by_cases c : ∃ b ∈ ts, b ≤ t
    · obtain ⟨u, h1, h2, h3⟩ := max_le c
      by_cases d : a ≤ t ∧ u < a
      · refine ⟨a, List.mem_cons_self, d.1, fun v hv le => ?_⟩
        rcases List.mem_cons.mp hv with z | z
        · omega
        · have := h3 v z le
          omega
      · refine ⟨u, List.mem_cons_of_mem _ h1, h2, fun v hv le => ?_⟩
        rcases List.mem_cons.mp hv with z | z
        · omega
        · exact h3 v z le
    · obtain ⟨b, hb, le⟩ := h
      rcases List.mem_cons.mp hb with z | z
      · subst z
        refine ⟨b, List.mem_cons_self, le, fun v hv lv => ?_⟩
        rcases List.mem_cons.mp hv with y | y
        · omega
        · exact absurd ⟨v, y, lv⟩ c
      · exact absurd ⟨b, z, le⟩ c
end My
set_option maxHeartbeats 1000000
/-! what is left in the open houses, by the law -/
namespace My
open PySem PySem.Spec PyProof.Rows L2 GX GxR
/-- the begin and the begins within -/
def beginsIn (b e : Int) (h : Hm) : List Int := b :: (h.es.map fun em => em.x.b).filter (withinM b e)
def siteL (b e : Int) (h : Hm) : List Int := leftTs h.room h.bs (beginsIn b e h)
def MstAt (b e : Int) (H : Hp) (t : Addr) (p : Md2) : Prop := ∃ u, H t = some (.tup [.str p.2.name, .str p.2.yard, .ref u]) ∧ H u = some (.tup ((siteL b e p.2).map V.int))
theorem MstAt.kt {b e : Int} {H H' : Hp} {t : Addr} {p : Md2} (k : KTu H H') (h : MstAt b e H t p) : MstAt b e H' t p := by
  obtain ⟨u, h1, h2⟩ := h
  exact ⟨u, k _ _ h1, k _ _ h2⟩
theorem leftTs_len {room : List Int} {rs : List Bw} (ts : List Int) : (leftTs room rs ts).length = room.length := by
  unfold leftTs
  have : ∀ (ts acc : List Int), acc.length = room.length → (ts.foldl (fun acc t => List.zipWith minI acc (lessL room (netB room.length rs t))) acc).length = room.length := by
    intro ts
    induction ts with
    | nil => exact fun _ h => h
    | cons t ts ih =>
      intro acc h
      rw [List.foldl_cons]
      refine ih _ ?_
      rw [List.length_zipWith, h, less_len2, Nat.min_self]
  exact this ts room rfl
end My
set_option maxHeartbeats 1000000
/-! xs.count(k) of a list of truth values: told like the library's count of whole numbers -/
set_option maxHeartbeats 1000000
/-! an estate's deeds done: what they come to -/
namespace My
open PySem PySem.W PySem.Spec PyProof.Rows L2 GX GxR XI
/-! the classes: Taken 0, NoHouse 1, NoGang 2, TooMuch 3, HallError 4 -/
structure RefsE (K : PySem.W.Frag) (c : Nat → Addr) : Prop where
  ex : ∀ i, i < 4 → ExcC K (c i)
  kit : ∀ i j, i < 4 → j < 4 → PySem.W.kitOne K (.ref (c i)) (.ref (c j)) = some (decide (i = j))
  val : ∀ i, i < 4 → PySem.W.kitOne K (.ref (c i)) (.type "ValueError") = some true
  exm : ∀ i, i < 4 → PySem.W.exmOne K (.ref (c i)) (.ref (c 4)) = some true
  xf : XfC K (c 3)
  no : PySem.W.findIn K (.ref (c 3)) "time" = some none
structure RefGE (mg : Str → Option Value) (c : Nat → Addr) : Prop where
  m0 : mg "Taken" = some (.ref (c 0))
  m1 : mg "NoHouse" = some (.ref (c 1))
  m2 : mg "NoGang" = some (.ref (c 2))
  m3 : mg "TooMuch" = some (.ref (c 3))
  m4 : mg "HallError" = some (.ref (c 4))
def refsEB (K : PySem.W.Frag) (cs : List Addr) : Bool :=
  ((List.range 4).all fun i => excBK K (cs.getD i 0) && (((List.range 4).all fun j => decide (PySem.W.kitOne K (.ref (cs.getD i 0)) (.ref (cs.getD j 0)) = some (decide (i = j)))) && (decide (PySem.W.kitOne K (.ref (cs.getD i 0)) (.type "ValueError") = some true)
    && decide (PySem.W.exmOne K (.ref (cs.getD i 0)) (.ref (cs.getD 4 0)) = some true)))) && (xfB K (cs.getD 3 0) && decide (PySem.W.findIn K (.ref (cs.getD 3 0)) "time" = some none))
theorem refsEB_ok {K : PySem.W.Frag} {cs : List Addr} (h : refsEB K cs = true) : RefsE K (fun i => cs.getD i 0) := by
  unfold refsEB at h
  simp only [List.all_eq_true, List.mem_range, Bool.and_eq_true, decide_eq_true_eq] at h
  obtain ⟨h, h1, h2⟩ := h
  exact ⟨fun i hi => excBK_ok (h i hi).1, fun i j hi hj => (h i hi).2.1 j hj, fun i hi => (h i hi).2.2.1, fun i hi => (h i hi).2.2.2, xfB_ok h1, h2⟩
structure PEs (CE CH CB : Addr) (Ts : List Addr) (hn gn : List Str) (w : Nat) (H : Hp) (e edx hd pd : Addr) (pps : List (Key × V)) (L : List Hp2) : Prop where
  nm : Nms hn gn w
  es : EsAt CE CH CB H e edx hd pd pps L
  tabs : Tabs Ts H
  good : MGood hn gn w (L.map (·.2))
section
variable {CE CH CB e edx hd pd : Addr} {H H1 H' : Hp} {pps : List (Key × V)} {L : List Hp2} {Ts : List Addr} {hn gn : List Str} {w : Nat} {M : List Hm}
/-- anything that is neither a dict nor an instance -/
theorem EsAt.off (B : EsAt CE CH CB H e edx hd pd pps L) {S : List Addr} (hS : ∀ x ∈ S, x ∈ foot e hd pd L) (k : Kp S H H') {q : Addr} {o : HO} (h : H q = some o) (n1 : ∀ kv, o ≠ .dK kv) (n2 : ∀ C dx fs, o ≠ .ins C dx fs) : H' q = some o := k _ _ (fun z => by
  rcases B.kind (hS q z) with ⟨C, dx, fs, g⟩ | ⟨kv, g⟩
  · rw [h] at g
    exact n2 _ _ _ (Option.some.inj g)
  · rw [h] at g
    exact n1 _ (Option.some.inj g)) h
theorem After.tabs {M' : List Hm} (B : EsAt CE CH CB H e edx hd pd pps L) (t : Tabs Ts H) (a : After CE CH CB [] H e edx hd pd L M' H') : After CE CH CB Ts H e edx hd pd L M' H' := by
  obtain ⟨pps', L1, k, _, B1, e1, f1⟩ := a
  rw [List.append_nil] at k
  refine ⟨pps', L1, k.mono fun x hx => List.mem_append_left _ hx, fun T hT => ?_, B1, e1, f1⟩
  obtain ⟨ps', h1, h2⟩ := t T hT
  exact ⟨ps', B.off (fun _ h => h) k h1 (fun kv z => by cases z) (fun C dx fs z => by cases z), h2⟩
theorem After.same {M' : List Hm} {H2 : Hp} (s : Same H' H2) (a : After CE CH CB Ts H e edx hd pd L M' H') : After CE CH CB Ts H e edx hd pd L M' H2 := by
  obtain ⟨pps', L1, k, t, B1, e1, f1⟩ := a
  exact ⟨pps', L1, k.trans (Same.kp _ s), fun T hT => TabG.same s (t T hT), B1.same s, e1, f1⟩
theorem After.since {M' : List Hm} (s : Same H H1) (a : After CE CH CB Ts H1 e edx hd pd L M' H') : After CE CH CB Ts H e edx hd pd L M' H' := by
  obtain ⟨pps', L1, k, t, B1, e1, f1⟩ := a
  exact ⟨pps', L1, (Same.kp _ s).trans k, t, B1, e1, fun x hx => (f1 x hx).imp_right s.free⟩
theorem PEs.same (s : Same H H') (p : PEs CE CH CB Ts hn gn w H e edx hd pd pps L) : PEs CE CH CB Ts hn gn w H' e edx hd pd pps L := ⟨p.nm, p.es.same s, fun T hT => TabG.same s (p.tabs T hT), p.good⟩
theorem MGood.bkbl (N : Nms hn gn w) (G : MGood hn gn w M) {z gd hw : Str} {rk mn ln bg : Int} {want : List Int} {pl : List (Str × Int)} (ok : EDeedOk hn gn w (.book z gd hw rk mn ln want pl bg)) : Bkbl M z bg (bg + ln) want pl := by
  obtain ⟨k1, k2, k3, k4, k5, k6, k7, k8, k9, k10⟩ := ok
  refine ⟨(N.go z k1).2, by omega, ⟨log_smallE k5 (by omega), log_smallE (by omega) k6⟩, G.lim, fun h hh => (G.room h hh).trans k2.symm, fun h hh => ?_, k9, k7, ?_, fun q hq => ?_, fun q hq => (k10 q hq).2, fun zs nd hb => ?_⟩
  · have := G.es_few N hh
    omega
  · have := nodup_len (xs := pl.map (·.1)) (ys := hn) k9 fun z hz => by
      obtain ⟨q, hq, rfl⟩ := List.mem_map.mp hz
      exact (k10 q hq).1
    rw [List.length_map] at this
    have := N.hl
    omega
  · exact ⟨(N.ho _ (k10 q hq).1).2, (N.ho _ (k10 q hq).1).1⟩
  · have := G.gangs N nd hb
    omega
theorem over_new {room : List Int} {bs : List Bw} {z : Str} {b en : Int} {want : List Int} {n : Int} {o : Option Int} (B : BGood gn room bs) (hl : want.length = room.length) (lt : b < en) (nk : z ∉ keysB bs) (h : OverP room bs (xOf z b en want n) o) : IsFirst room bs (want.map (· * n)) b en o := by
  obtain ⟨ks, sr, fn⟩ := h
  have := first_put (x := xOf z b en want n) (by show (want.map _).length = _; rw [List.length_map, hl]) lt B.fit nk sr
  rw [fn] at this
  exact this
end
/-! what is told of a deed -/
section
variable {CE CH CB e edx hd pd : Addr} {H H1 H' : Hp} {pps : List (Key × V)} {L : List Hp2} {Ts : List Addr} {hn gn : List Str} {w : Nat} {M : List Hm}
theorem NoL.tabs {Ts : List Addr} {H : Hp} (t : Tabs Ts H) : NoL Ts H := fun s hs us h => by
  obtain ⟨ps, h1, _⟩ := t s hs
  rw [h1] at h
  cases h
theorem EsAt.fw (t : Tabs Ts H) (f : Fw Ts H H') (B : EsAt CE CH CB H e edx hd pd pps L) : EsAt CE CH CB H' e edx hd pd pps L := by
  refine ⟨f.obj t B.obj (fun _ z => by cases z), f.obj t B.hs (fun _ z => by cases z), f.obj t B.pl (fun _ z => by cases z), fun p hp => ?_, B.plk, fun z v hv => ?_, B.sa, B.sb, B.sd, B.good⟩
  · have b := B.each p hp
    exact b.kp f.kp (f.kt t) (tab_off t b.obj fun _ z => by cases z) (tab_off t b.book.obj fun _ z => by cases z) (tab_off t b.book.en fun _ z => by cases z) (NoL.tabs t)
  · obtain ⟨t', ps, h1, h2, h3⟩ := B.pls z v hv
    exact ⟨t', ps, h1, h2.fw t f, h3⟩
theorem After.fw (t : Tabs Ts H) (f : Fw Ts H H') (B : EsAt CE CH CB H e edx hd pd pps L) : After CE CH CB Ts H e edx hd pd L (L.map (·.2)) H' :=
  ⟨pps, L, f.kp.mono fun x hx => List.mem_append_right _ hx, f.tabs, B.fw t f, rfl, fun x hx => .inl hx⟩
end
end My
set_option maxHeartbeats 1000000
/-! sum(t) of a tuple of whole numbers: told like the library's sum of a list -/
namespace SMT
open PySem PySem.Spec PyProof.Rows L2
def rSumT (K : PySem.W.Frag) : List V → Hp → VK → Prop := fun vs H Q => ∃ (a : Addr) (ns : List Int), vs = [V.ref a] ∧ SqT K H a (ns.map V.int) ∧ Q (.int ns.sum) H
section
variable {X : Cx}
theorem cr_sumT (hc : X.calm = true) : CallR X (.builtin "sum") (rSumT X.K) := by
  intro pins s σ H vs us Q I r h
  obtain ⟨a, ns, rfl, hs, q⟩ := h
  obtain ⟨its, rv, hl, _⟩ := I.tuple hs
  rw [Vals.ref1 r]
  have hi := rv.ints
  obtain ⟨xs, e⟩ := hi.allInts.items
  have hn : numsOf (intItems xs).toList = ns := by rw [← e]; exact hi.numsOf
  rw [nums_intItems] at hn
  have ht : s.heap.IsTuple a its.toArray := hl
  rw [e] at ht
  have hlt : a < s.heap.objs.size := by obtain ⟨_, e, _⟩ := ht; exact Heap.lt_size e
  refine PySem.call_sum_walkG (PySem.wpAny_pyIter_tuple ht ?_)
  refine ⟨_, _, _, _, _, _, numAt xs, rfl, Walks.tuple (A := X.A.in1) (I.ok.hd hc) _ a (Nat.ne_of_lt hlt) (intItems xs), ⟨⟨_, Heap.get?_push_size _ rfl, rfl, rfl⟩, ht.push _⟩, fun b hb => ?_, (fun _ _ => intItems_at), fun h' tk t' hk => ?_⟩
  · have sz : (s.heap.push { cls := .type "tuple_iterator", data := .fields #[.ref a, .int 0 0] }).objs.size = s.heap.objs.size + 1 := Heap.size_push ..
    have two : b = s.heap.objs.size ∨ b = a := by simpa using hb
    show b < (s.heap.push { cls := .type "tuple_iterator", data := .fields #[.ref a, .int 0 0] }).objs.size
    rw [sz]
    rcases two with z | z
    · rw [z]; exact Nat.lt_succ_self _
    · rw [z]; exact Nat.lt_succ_of_lt hlt
  · refine ⟨.int _, H, I.kept fun b o e => ?_, ⟨_, rfl⟩, ?_⟩
    · have lt := Heap.lt_size e
      exact hk b o (fun hm => Nat.lt_irrefl _ (by rw [List.mem_singleton.mp hm] at lt; exact lt)) (Heap.get?_push_of_some _ e)
    · have : preSum (numAt xs) (intItems xs).size = ns.sum := by
        rw [show (intItems xs).size = xs.size by simp [intItems], preSum_eq, List.take_of_length_le (by simp), hn]
      rw [this]
      exact q
end
end SMT
set_option maxHeartbeats 1000000
/-! the draws of the estates' laws -/
namespace My
open PySem PySem.W PySem.Spec PyProof.Rows L2 GX GxR
/-- its texts can be laid out -/
def DWOk : EDeed → Prop
  | .add _ y _ kd => PySem.PyData.strOk y = true ∧ ∀ z, kd = some z → PySem.PyData.strOk z = true
  | .state _ st => PySem.PyData.strOk st = true
  | _ => True
def hnE : List Str := ["a", "aa", "b", "ba", "house", "c", "m", "mm", "quarters", "z", "zz", "n"]
def gnE : List Str := ["p", "pp", "q", "qa", "gang", "r", "run", "s", "ss", "t", "tt", "u", "v", "w", "x", "y"]
section
variable {H H' : Hp} {b : Addr} {c : Int}
/-- a dict is not where the box is -/
theorem box_dk (B : BoxAt H b c) {x : Addr} {kv : List (Key × V)} (e : H x = some (.dK kv)) : x ∉ [b] := fun z => by
  obtain ⟨xs, h1, _⟩ := B
  rw [List.mem_singleton.mp z, h1] at e
  cases e
theorem box_kt (B : BoxAt H b c) (k : Kp [b] H H') : KTu H H' := fun x xs e => k _ _ (fun z => by
  obtain ⟨ys, h1, _⟩ := B
  rw [List.mem_singleton.mp z, h1] at e
  cases e) e
theorem MdAt.box {D : Addr} {L : List Md2} (M : MdAt H D L) (B : BoxAt H b c) (k : Kp [b] H H') : MdAt H' D L :=
  ⟨k _ _ (box_dk B M.obj) M.obj, fun p hp => (M.each p hp).kp k (box_kt B k) (box_dk B (M.each p hp).obj) (box_dk B (M.each p hp).en), M.nd, M.dicts, M.few⟩
end
end My
set_option maxHeartbeats 1000000
/-! an estate and the law's keeping of it; what both tell -/
namespace My
open PySem PySem.W PySem.Spec PyProof.Rows L2 GX GxR
/-- texts that can be laid out -/
def WGood (M : List Hm) : Prop := ∀ h ∈ M, PySem.PyData.strOk h.yard = true ∧ PySem.PyData.strOk h.state = true ∧ ∀ z, h.kind = some z → PySem.PyData.strOk z = true
theorem WGood.map {M : List Hm} {g : Hm → Hm} (h1 : ∀ h, (g h).yard = h.yard) (h2 : ∀ h, (g h).state = h.state) (h3 : ∀ h, (g h).kind = h.kind) (W : WGood M) : WGood (M.map g) := fun h hh => by
  obtain ⟨h0, m0, rfl⟩ := List.mem_map.mp hh
  rw [h1, h2, h3]
  exact W h0 m0
theorem WGood.due {M M' : List Hm} {d : EDeed} {o : EOut} (W : WGood M) (ok : DWOk d) (h : DueE M d o M') : WGood M' := by
  have kp : ∀ {Mn : List Hm} {f : Option Int}, WGood Mn → KeptE M Mn f o M' → WGood M' := fun {Mn f} w k => by
    cases f with
    | none => rw [k.2]; exact w
    | some t => rw [k.2]; exact W
  cases d with
  | add z y room kd =>
    rcases h with ⟨_, _, rfl⟩ | ⟨_, _, rfl⟩
    · exact W
    · intro h hh
      rcases List.mem_append.mp hh with h1 | h1
      · exact W h h1
      · rw [List.mem_singleton.mp h1]
        exact ⟨ok.1, (show PySem.PyData.strOk (Str.ofString "open") = true by decide +kernel), ok.2⟩
  | lose z =>
    rcases h with ⟨_, _, rfl⟩ | ⟨hm, _, _, ys, _, _, _, rfl⟩
    · exact W
    · exact fun h hh => W h (lose_mem.mp hh).1
  | state z st =>
    rcases h with ⟨_, _, rfl⟩ | ⟨_, _, rfl⟩
    · exact W
    · intro h hh
      obtain ⟨h0, m0, rfl⟩ := List.mem_map.mp hh
      unfold setH
      split
      · exact ⟨(W h0 m0).1, ok, (W h0 m0).2.2⟩
      · exact W h0 m0
  | book z gd hw rk mn ln want pl bg =>
    rcases h with ⟨_, _, rfl⟩ | ⟨_, _, _, rfl⟩ | ⟨_, _, f, _, k⟩
    · exact W
    · exact W
    · exact kp (WGood.map (g := bookH z bg (bg + ln) want pl) (fun h => by unfold bookH; split <;> rfl) (fun h => by unfold bookH; split <;> rfl) (fun h => by unfold bookH; split <;> rfl) W) k
  | cut z t =>
    rcases h with ⟨_, _, rfl⟩ | ⟨_, _, rfl⟩
    · exact W
    · exact WGood.map (g := cutH z t) (fun _ => rfl) (fun _ => rfl) (fun _ => rfl) W
  | stretch z t =>
    rcases h with ⟨_, _, rfl⟩ | ⟨_, ys, _, f, _, k⟩
    · exact W
    · exact kp (WGood.map (g := retH (strF z t)) (fun _ => rfl) (fun _ => rfl) (fun _ => rfl) W) k
  | free z =>
    rcases h with ⟨_, _, rfl⟩ | ⟨_, _, rfl⟩
    · exact W
    · exact WGood.map (g := freeH z) (fun _ => rfl) (fun _ => rfl) (fun _ => rfl) W
  | forget t =>
    obtain ⟨ys, _, _, _, _, rfl⟩ := h
    exact WGood.map (g := pastH t) (fun _ => rfl) (fun _ => rfl) (fun _ => rfl) W
/-! the estate and the keeping, apart -/
structure S32 (CE CH CB : Addr) (Ts : List Addr) (H1 H : Hp) (e edx hd pd D : Addr) (pps : List (Key × V)) (L : List Hp2) (ML : List Md2) : Prop where
  fw : Fw Ts H1 H
  es : EsAt CE CH CB H e edx hd pd pps L
  md : MdAt H D ML
  sep : ∀ x ∈ foot e hd pd L, x ∉ mfoot D ML
  fr : ∀ x ∈ foot e hd pd L, H1 x = none
  mr : ∀ x ∈ mfoot D ML, H1 x = none
section
variable {CE CH CB e edx hd pd D b : Addr} {H1 H H' : Hp} {pps : List (Key × V)} {L : List Hp2} {ML : List Md2} {Ts S : List Addr} {M' : List Hm} {c : Int}
theorem EsAt.kpx (B : EsAt CE CH CB H e edx hd pd pps L) (k : Kp S H H') (off : ∀ x ∈ S, x ∉ foot e hd pd L) (nt : ∀ x ∈ S, ∀ o, H x = some o → (∀ xs, o ≠ .tup xs) ∧ (∀ q u, o ≠ .frz q u) ∧ ∀ us : List Addr, o ≠ .lst (us.map V.ref)) : EsAt CE CH CB H' e edx hd pd pps L := by
  have kt : KTu H H' := fun q xs hq => k _ _ (fun z => (nt q z _ hq).1 xs rfl) hq
  have o1 : ∀ {x}, x ∈ foot e hd pd L → x ∉ S := fun h z => off _ z h
  refine ⟨k _ _ (o1 (foot_mem.mpr (.inl rfl))) B.obj, k _ _ (o1 (foot_mem.mpr (.inr (.inl rfl)))) B.hs, k _ _ (o1 (foot_mem.mpr (.inr (.inr (.inl rfl))))) B.pl, fun p hp => ?_, B.plk, fun z v hv => ?_, B.sa, B.sb, B.sd, B.good⟩
  · exact (B.each p hp).kp k kt (o1 (foot_mem.mpr (.inr (.inr (.inr ⟨p, hp, .inl rfl⟩))))) (o1 (foot_mem.mpr (.inr (.inr (.inr ⟨p, hp, .inr (.inl rfl)⟩))))) (o1 (foot_mem.mpr (.inr (.inr (.inr ⟨p, hp, .inr (.inr rfl)⟩))))) (fun y hy us e1 => (nt y hy _ e1).2.2 us rfl)
  · obtain ⟨t, ps, h1, h2, h3⟩ := B.pls z v hv
    exact ⟨t, ps, h1, h2.kq2 k kt fun x hx o u hu => (nt x hx _ hu).2.1 o u rfl, h3⟩
theorem MdAt.kpx (B : MdAt H D ML) (k : Kp S H H') (kt : KTu H H') (off : ∀ x ∈ S, x ∉ mfoot D ML) : MdAt H' D ML := by
  have o1 : ∀ {x}, x ∈ mfoot D ML → x ∉ S := fun h z => off _ z h
  exact ⟨k _ _ (o1 (mfoot_mem.mpr (.inl rfl))) B.obj, fun p hp => (B.each p hp).kp k kt (o1 (mfoot_mem.mpr (.inr ⟨p, hp, .inl rfl⟩))) (o1 (mfoot_mem.mpr (.inr ⟨p, hp, .inr rfl⟩))), B.nd, B.dicts, B.few⟩
theorem S32.same (s : Same H H') (x : S32 CE CH CB Ts H1 H e edx hd pd D pps L ML) : S32 CE CH CB Ts H1 H' e edx hd pd D pps L ML := ⟨x.fw.then s, x.es.same s, x.md.same s, x.sep, x.fr, x.mr⟩
theorem bx_ref {xs : List V} {c : Int} {us : List Addr} (h : BoxV xs c) (e : xs = us.map V.ref) : False := by
  obtain ⟨_, _, _, rfl, _⟩ := h
  cases us with
  | nil => cases e
  | cons u us =>
    rw [List.map_cons] at e
    injection e with e1 _
    cases e1
theorem S32.box (tH : Tabs Ts H1) (x : S32 CE CH CB Ts H1 H e edx hd pd D pps L ML) (B : BoxAt H b c) (k : Kp [b] H H') (fb : H1 b = none) : S32 CE CH CB Ts H1 H' e edx hd pd D pps L ML := by
  obtain ⟨xs, h1, h2⟩ := _root_.id B
  have nb : ∀ y ∈ [b], ∀ o, H y = some o → o = .lst xs := fun y hy o ho => by
    rw [List.mem_singleton.mp hy, h1] at ho
    exact (Option.some.inj ho).symm
  refine ⟨⟨fun y o ny hy => k _ _ (fun z => ?_) (x.fw.kp y o ny hy), fun T hT => ?_⟩, x.es.kpx k (fun y hy z => ?_) (fun y hy o ho => ?_), x.md.box B k, x.sep, x.fr, x.mr⟩
  · rw [List.mem_singleton.mp z, fb] at hy
    cases hy
  · obtain ⟨ps, g1, g2⟩ := x.fw.tabs T hT
    refine ⟨ps, k _ _ (fun z => ?_) g1, g2⟩
    have := nb T z _ g1
    cases this
  · rcases x.es.kind z with ⟨C, dx, fs, g⟩ | ⟨kv, g⟩
    · have := nb y hy _ g
      cases this
    · have := nb y hy _ g
      cases this
  · rw [nb y hy o ho]
    exact ⟨(fun xs z => by cases z), (fun q u z => by cases z), fun us z => bx_ref h2 (by injection z)⟩
theorem S32.told (tH : Tabs Ts H1) (x : S32 CE CH CB Ts H1 H e edx hd pd D pps L ML) (a : After CE CH CB Ts H e edx hd pd L M' H') : ∃ pps' L', S32 CE CH CB Ts H1 H' e edx hd pd D pps' L' ML ∧ L'.map (·.2) = M' := by
  obtain ⟨pps', L1, k, t, B1, e1, f1⟩ := a
  have kind : ∀ y ∈ foot e hd pd L ++ Ts, ∀ o, H y = some o → (∀ xs, o ≠ .tup xs) ∧ ∀ q u, o ≠ .frz q u := fun y hy o ho => by
    rcases List.mem_append.mp hy with hy | hy
    · rcases x.es.kind hy with ⟨C, dx, fs, g⟩ | ⟨kv, g⟩
      · rw [g] at ho
        cases ho
        exact ⟨(fun xs z => by cases z), fun q u z => by cases z⟩
      · rw [g] at ho
        cases ho
        exact ⟨(fun xs z => by cases z), fun q u z => by cases z⟩
    · obtain ⟨ps, g, _⟩ := x.fw.tabs y hy
      rw [g] at ho
      cases ho
      exact ⟨(fun xs z => by cases z), fun q u z => by cases z⟩
  have kt : KTu H H' := fun q xs hq => k _ _ (fun z => (kind q z _ hq).1 xs rfl) hq
  refine ⟨pps', L1, ⟨⟨fun y o ny hy => k _ _ (fun z => ?_) (x.fw.kp y o ny hy), t⟩, B1, x.md.kpx k kt (fun y hy z => ?_), fun y hy z => ?_, fun y hy => ?_, x.mr⟩, e1⟩
  · rcases List.mem_append.mp z with z | z
    · rw [x.fr y z] at hy
      cases hy
    · exact ny z
  · rcases List.mem_append.mp hy with hy | hy
    · exact x.sep y hy z
    · obtain ⟨kv, g⟩ := x.md.kind z
      obtain ⟨ps, g2, _⟩ := x.fw.tabs y hy
      rw [g] at g2
      cases g2
  · rcases f1 y hy with h | h
    · exact x.sep y h z
    · obtain ⟨kv, g⟩ := x.md.kind z
      rw [h] at g
      cases g
  · rcases f1 y hy with h | h
    · exact x.fr y h
    · exact x.fw.free tH h
theorem S32.due (tH : Tabs Ts H1) (x : S32 CE CH CB Ts H1 H e edx hd pd D pps L ML) (a : MAfter H D ML M' H') : ∃ ML', S32 CE CH CB Ts H1 H' e edx hd pd D pps L ML' ∧ ML'.map (·.2) = M' := by
  obtain ⟨L1, k, B1, e1, f1, _⟩ := a
  have kind : ∀ y ∈ mfoot D ML, ∀ o, H y = some o → ∃ kv, o = .dK kv := fun y hy o ho => by
    obtain ⟨kv, g⟩ := x.md.kind hy
    rw [g] at ho
    exact ⟨kv, (Option.some.inj ho).symm⟩
  refine ⟨L1, ⟨⟨fun y o ny hy => k _ _ (fun z => ?_) (x.fw.kp y o ny hy), fun T hT => ?_⟩, x.es.kpx k (fun y hy z => x.sep y z hy) (fun y hy o ho => ?_), B1, fun y hy z => ?_, x.fr, fun y hy => ?_⟩, e1⟩
  · rw [x.mr y z] at hy
    cases hy
  · obtain ⟨ps, g1, g2⟩ := x.fw.tabs T hT
    refine ⟨ps, k _ _ (fun z => ?_) g1, g2⟩
    obtain ⟨kv, e⟩ := kind T z _ g1
    cases e
  · obtain ⟨kv, rfl⟩ := kind y hy o ho
    exact ⟨(fun xs z => by cases z), (fun q u z => by cases z), fun us z => by cases z⟩
  · rcases f1 y z with h | h
    · exact x.sep y hy h
    · rcases x.es.kind hy with ⟨C, dx, fs, g⟩ | ⟨kv, g⟩
      · rw [h] at g; cases g
      · rw [h] at g; cases g
  · rcases f1 y hy with h | h
    · exact x.mr y h
    · exact x.fw.free tH h
end
/-! what is told, as data -/
theorem lay_all : ∀ {ds : List PyData}, (∀ d ∈ ds, PyData.canLay0 d = true) → PyData.canLayAll0 ds = true
  | [], _ => rfl
  | d :: ds, h => by
    show (PyData.canLay0 d && PyData.canLayAll0 ds) = true
    rw [h d List.mem_cons_self, lay_all fun x hx => h x (List.mem_cons_of_mem _ hx)]
    rfl
theorem dep_all {n : Nat} : ∀ {ds : List PyData}, (∀ d ∈ ds, PyData.depth d ≤ n) → PyData.depthAll ds ≤ n
  | [], _ => by simp [PyData.depthAll]
  | d :: ds, h => by
    show max (PyData.depth d) (PyData.depthAll ds) ≤ n
    have h1 := h d List.mem_cons_self
    have h2 := dep_all fun x hx => h x (List.mem_cons_of_mem _ hx)
    omega
theorem lay_tup {ds : List PyData} (h : ∀ d ∈ ds, PyData.canLay0 d = true) : PyData.canLay0 (.tuple ds) = true := lay_all h
theorem lay_lst {ds : List PyData} (h : ∀ d ∈ ds, PyData.canLay0 d = true) : PyData.canLay0 (.list ds) = true := lay_all h
theorem dep_tup {n : Nat} {ds : List PyData} (h : ∀ d ∈ ds, PyData.depth d ≤ n) : PyData.depth (.tuple ds) ≤ n + 1 := by
  show PyData.depthAll ds + 1 ≤ n + 1
  have := dep_all h
  omega
theorem dep_lst {n : Nat} {ds : List PyData} (h : ∀ d ∈ ds, PyData.depth d ≤ n) : PyData.depth (.list ds) ≤ n + 1 := by
  show PyData.depthAll ds + 1 ≤ n + 1
  have := dep_all h
  omega
theorem sh_of {d : PyData} {n : Nat} (h1 : PyData.canLay0 d = true) (h2 : PyData.depth d ≤ n) (h3 : n ≤ 64) : SeqAt.shaped d = true := by
  unfold SeqAt.shaped
  rw [h1]
  have : PyData.depth d ≤ 64 := Nat.le_trans h2 h3
  simp [this]
theorem dep0_int (n : Int) : PyData.depth (.int n) = 0 := by simp [PyData.depth]
theorem dep0_str (z : Str) : PyData.depth (.str z) = 0 := by simp [PyData.depth]
theorem dep0_non : PyData.depth .none = 0 := by simp [PyData.depth]
theorem lay_str {z : Str} (h : PySem.PyData.strOk z = true) : PyData.canLay0 (.str z) = true := h
/-- elements by their keys -/
theorem one_by {α : Type} {f : α → Str} {xs ys : List α} (p : xs.Perm ys) (nd : (ys.map f).Nodup) (hx : sortedS (xs.map f) = true) (hy : sortedS (ys.map f) = true) : xs = ys := by
  have e := sorted_one (p.map f) hx hy
  refine List.ext_getElem? fun i => ?_
  have e1 : (xs.map f)[i]? = (ys.map f)[i]? := by rw [e]
  rw [List.getElem?_map, List.getElem?_map] at e1
  cases h : xs[i]? with
  | none =>
    rw [h] at e1
    cases h2 : ys[i]? with
    | none => rfl
    | some y => rw [h2] at e1; cases e1
  | some x =>
    rw [h] at e1
    cases h2 : ys[i]? with
    | none => rw [h2] at e1; cases e1
    | some y =>
      rw [h2] at e1
      rw [nodup_inj nd x (p.mem_iff.mp (List.mem_of_getElem? h)) y (List.mem_of_getElem? h2) (Option.some.inj e1)]
/-! houses told -/
def optD : Option Str → PyData
  | none => .none
  | some z => .str z
def hrD (h : Hm) : PyData := .tuple [.str h.name, .str h.yard, .tuple (h.room.map PyData.int), optD h.kind, .str h.state]
theorem dp_ints2 {K : PySem.W.Frag} {H : Hp} : ∀ ns : List Int, DpAll K H (ns.map V.int) (ns.map PyData.int)
  | [] => .nil
  | n :: ns => .cons (.int n) (dp_ints2 ns)
theorem opt_dp {K : PySem.W.Frag} {H : Hp} : ∀ o : Option Str, Dp K H (optS o) (optD o)
  | none => .non
  | some _ => .str _
theorem hr_dp {K : PySem.W.Frag} {H : Hp} {t m : Addr} {h : Hm} (e : H t = some (.tup [.str h.name, .str h.yard, .ref m, optS h.kind, .str h.state])) (e2 : H m = some (.tup (h.room.map V.int))) : Dp K H (.ref t) (hrD h) :=
  .tup (SqT.of e) (.cons (.str _) (.cons (.str _) (.cons (.tup (SqT.of e2) (dp_ints2 _)) (.cons (opt_dp _) (.cons (.str _) .nil)))))
theorem room_lay (ns : List Int) : PyData.canLay0 (.tuple (ns.map PyData.int)) = true := lay_tup fun d hd => by
  obtain ⟨n, _, rfl⟩ := List.mem_map.mp hd
  rfl
theorem room_dep (ns : List Int) : PyData.depth (.tuple (ns.map PyData.int)) ≤ 1 := dep_tup (n := 0) fun d hd => by
  obtain ⟨n, _, rfl⟩ := List.mem_map.mp hd
  exact Nat.le_of_eq (dep0_int _)
/-- a house's texts can be laid out -/
def HOk (h : Hm) : Prop := PySem.PyData.strOk h.name = true ∧ PySem.PyData.strOk h.yard = true ∧ PySem.PyData.strOk h.state = true ∧ ∀ z, h.kind = some z → PySem.PyData.strOk z = true
/-- rows of the kind R, told as data -/
theorem rows_dp {α : Type} {K : PySem.W.Frag} {H : Hp} {R : Addr → α → Prop} {f : α → PyData} (h : ∀ t x, R t x → Dp K H (.ref t) (f x)) : ∀ {ts : List Addr} {xs : List α}, Paired R ts xs → DpAll K H (ts.map V.ref) (xs.map f)
  | _, _, .nil => .nil
  | _, _, .cons r t => .cons (h _ _ r) (rows_dp h t)
end My
set_option maxHeartbeats 1000000
/-! the law's keeping of rows 41 to 46: a dict from houses to lists; an estate beside it -/
namespace My
open PySem PySem.W PySem.Spec PyProof.Rows L2 GX GxR
structure KAd where
  l : Addr
  r : Addr
  n : Addr
abbrev Kd2 := KAd × Hm
def KeAt (H : Hp) (u : Addr) (x : Bw) : Prop := ∃ a, H u = some (.tup [.str x.key, .int x.b, .int x.e, .ref a]) ∧ H a = some (.tup (x.am.map V.int))
structure KhAt (H : Hp) (x : KAd) (h : Hm) : Prop where
  obj : H x.l = some (.lst [.str h.yard, .ref x.r, .str h.state, .ref x.n])
  rm : H x.r = some (.tup (h.room.map V.int))
  en : ∃ us : List Addr, H x.n = some (.lst (us.map V.ref)) ∧ Paired (KeAt H) us h.bs
def kkv (L : List Kd2) : List (Key × V) := L.map fun p => ((Sum.inr p.2.name : Key), V.ref p.1.l)
structure KdAt (H : Hp) (D : Addr) (L : List Kd2) : Prop where
  obj : H D = some (.dK (kkv L))
  each : ∀ p ∈ L, KhAt H p.1 p.2
  nd : (L.map (·.2.name)).Nodup
  ls : (L.map (·.1.l)).Nodup
  ns : (L.map (·.1.n)).Nodup
  few : L.length ≤ 60
def kfoot (D : Addr) (L : List Kd2) : List Addr := D :: (L.map (·.1.l) ++ L.map (·.1.n))
theorem kfoot_mem {D x : Addr} {L : List Kd2} : x ∈ kfoot D L ↔ x = D ∨ ∃ p ∈ L, x = p.1.l ∨ x = p.1.n := by
  unfold kfoot
  rw [List.mem_cons, List.mem_append, List.mem_map, List.mem_map]
  constructor
  · rintro (h | ⟨p, hp, rfl⟩ | ⟨p, hp, rfl⟩)
    · exact .inl h
    · exact .inr ⟨p, hp, .inl rfl⟩
    · exact .inr ⟨p, hp, .inr rfl⟩
  · rintro (h | ⟨p, hp, rfl | rfl⟩)
    · exact .inl h
    · exact .inr (.inl ⟨p, hp, rfl⟩)
    · exact .inr (.inr ⟨p, hp, rfl⟩)
theorem refs_one : ∀ {us ls : List Addr}, us.map V.ref = ls.map V.ref → us = ls
  | [], [], _ => rfl
  | [], l :: ls, h => by cases h
  | u :: us, [], h => by cases h
  | u :: us, l :: ls, h => by
    rw [List.map_cons, List.map_cons] at h
    obtain ⟨h1, h2⟩ := List.cons.inj h
    injection h1 with h1
    rw [h1, refs_one h2]
section
variable {D b : Addr} {H H' : Hp} {L : List Kd2} {S : List Addr} {c : Int}
theorem KeAt.kt (k : KTu H H') {u : Addr} {x : Bw} (h : KeAt H u x) : KeAt H' u x := by
  obtain ⟨a, h1, h2⟩ := h
  exact ⟨a, k _ _ h1, k _ _ h2⟩
theorem KhAt.kp {x : KAd} {h : Hm} (k : Kp S H H') (kt : KTu H H') (n1 : x.l ∉ S) (n2 : x.n ∉ S) (B : KhAt H x h) : KhAt H' x h := by
  obtain ⟨us, e1, e2⟩ := B.en
  exact ⟨k _ _ n1 B.obj, kt _ _ B.rm, us, k _ _ n2 e1, e2.mono fun _ _ g => g.kt kt⟩
theorem KdAt.kpx (B : KdAt H D L) (k : Kp S H H') (kt : KTu H H') (off : ∀ x ∈ S, x ∉ kfoot D L) : KdAt H' D L := by
  have o1 : ∀ {x}, x ∈ kfoot D L → x ∉ S := fun h z => off _ z h
  exact ⟨k _ _ (o1 (kfoot_mem.mpr (.inl rfl))) B.obj, fun p hp => (B.each p hp).kp k kt (o1 (kfoot_mem.mpr (.inr ⟨p, hp, .inl rfl⟩))) (o1 (kfoot_mem.mpr (.inr ⟨p, hp, .inr rfl⟩))), B.nd, B.ls, B.ns, B.few⟩
theorem KdAt.same (s : Same H H') (B : KdAt H D L) : KdAt H' D L := B.kpx (S := []) (Same.kp _ s) (fun q xs h => s _ _ h) fun _ h => nomatch h
/-- what stands there -/
theorem KdAt.kind (B : KdAt H D L) {x : Addr} (h : x ∈ kfoot D L) : (∃ kv, H x = some (.dK kv)) ∨ (∃ z r st n, H x = some (.lst [.str z, .ref r, .str st, .ref n])) ∨ ∃ us : List Addr, H x = some (.lst (us.map V.ref)) := by
  rcases kfoot_mem.mp h with rfl | ⟨p, hp, rfl | rfl⟩
  · exact .inl ⟨_, B.obj⟩
  · exact .inr (.inl ⟨_, _, _, _, (B.each p hp).obj⟩)
  · obtain ⟨us, e1, _⟩ := (B.each p hp).en
    exact .inr (.inr ⟨us, e1⟩)
theorem KdAt.box (B : KdAt H D L) (X : BoxAt H b c) (k : Kp [b] H H') : KdAt H' D L := by
  obtain ⟨xs, h1, h2⟩ := X
  refine B.kpx k (box_kt ⟨xs, h1, h2⟩ k) fun x hx z => ?_
  rw [List.mem_singleton.mp hx] at z
  rcases B.kind z with ⟨kv, g⟩ | ⟨z, r, st, n, g⟩ | ⟨us, g⟩
  · rw [h1] at g; cases g
  · rw [h1] at g
    obtain ⟨_, _, _, rfl, _⟩ := h2
    cases g
  · rw [h1] at g
    injection g with g
    injection g with g
    exact bx_ref h2 g
theorem KdAt.tup (B : KdAt H D L) (k : Kp S H H') (h : ∀ x ∈ S, x ∈ kfoot D L) : KTu H H' := fun q xs hq => k _ _ (fun z => by
  rcases B.kind (h _ z) with ⟨kv, g⟩ | ⟨z, r, st, n, g⟩ | ⟨us, g⟩ <;> · rw [hq] at g; cases g) hq
theorem KdAt.ln (B : KdAt H D L) {p q : Kd2} (hp : p ∈ L) (hq : q ∈ L) : p.1.l ≠ q.1.n := fun z => by
  have h1 := (B.each p hp).obj
  obtain ⟨us, e1, _⟩ := (B.each q hq).en
  rw [z, e1] at h1
  cases us with
  | nil => cases h1
  | cons u us =>
    rw [List.map_cons] at h1
    injection h1 with h1
    injection h1 with h1
    injection h1 with h1 _
    cases h1
theorem KdAt.dl (B : KdAt H D L) {p : Kd2} (hp : p ∈ L) : p.1.l ≠ D ∧ p.1.n ≠ D := by
  constructor
  · intro z
    have h1 := (B.each p hp).obj
    rw [z, B.obj] at h1
    cases h1
  · intro z
    obtain ⟨us, e1, _⟩ := (B.each p hp).en
    rw [z, B.obj] at e1
    cases e1
theorem KdAt.nd2 (B : KdAt H D L) : ∀ p ∈ L, ∀ q ∈ L, p.2.name = q.2.name → p = q := fun p hp q hq e => nodup_inj B.nd p hp q hq e
theorem KdAt.get (B : KdAt H D L) {p : Kd2} (hp : p ∈ L) : valV (kkv L) (Sum.inr p.2.name : Key) = some (.ref p.1.l) := by
  obtain ⟨i, hi⟩ := List.mem_iff_getElem?.mp hp
  refine valV_get (i := i) ?_ (by unfold kkv; rw [List.getElem?_map, hi]; rfl)
  have : (kkv L).map (·.1) = (L.map (·.2.name)).map Sum.inr := by
    unfold kkv
    rw [List.map_map, List.map_map]
    rfl
  rw [this]
  exact keys_nd B.nd
theorem KdAt.keys : (kkv L).map (·.1) = (L.map (·.2.name)).map Sum.inr := by
  unfold kkv
  rw [List.map_map, List.map_map]
  rfl
/-- houses altered in place -/
theorem KdAt.inplace {g : Hm → Hm} (gn : ∀ h, (g h).name = h.name) (B : KdAt H D L) (o : H' D = some (.dK (kkv L))) (each : ∀ p ∈ L, KhAt H' p.1 (g p.2)) : KdAt H' D (L.map fun p => (p.1, g p.2)) := by
  have ek : kkv (L.map fun p => (p.1, g p.2)) = kkv L := by
    unfold kkv
    rw [List.map_map]
    exact List.map_congr_left fun p _ => by show ((Sum.inr (g p.2).name : Key), V.ref p.1.l) = _; rw [gn]
  refine ⟨by rw [ek]; exact o, fun q hq => ?_, ?_, ?_, ?_, by rw [List.length_map]; exact B.few⟩
  · obtain ⟨p, hp, rfl⟩ := List.mem_map.mp hq
    exact each p hp
  · rw [List.map_map]
    have : L.map ((fun p : Kd2 => p.2.name) ∘ fun p => (p.1, g p.2)) = L.map (·.2.name) := List.map_congr_left fun p _ => gn p.2
    rw [this]
    exact B.nd
  · rw [List.map_map]
    exact B.ls
  · rw [List.map_map]
    exact B.ns
/-- an entry more in a house -/
theorem KdAt.put (B : KdAt H D L) {p : Kd2} (hp : p ∈ L) {us : List Addr} {u : Addr} {em : Em} (e : H p.1.n = some (.lst (us.map V.ref))) (hu : KeAt H u em.x) :
    KdAt (upd H p.1.n (.lst (us.map V.ref ++ [.ref u]))) D (L.map fun q => (q.1, onH p.2.name (fun h => { h with es := h.es ++ [em] }) q.2)) := by
  have k1 : Kp [p.1.n] H (upd H p.1.n (.lst (us.map V.ref ++ [.ref u]))) := kp_upd (List.mem_singleton.mpr rfl)
  have kt : KTu H (upd H p.1.n (.lst (us.map V.ref ++ [.ref u]))) := kt_put e (fun xs z => by cases z)
  have ed : upd H p.1.n (.lst (us.map V.ref ++ [.ref u])) p.1.n = some (.lst (us.map V.ref ++ [.ref u])) := upd_same
  generalize upd H p.1.n (.lst (us.map V.ref ++ [.ref u])) = H1 at k1 kt ed ⊢
  refine B.inplace (fun h => by unfold onH; split <;> rfl) (k1 _ _ (fun z => (B.dl hp).2 (List.mem_singleton.mp z).symm) B.obj) fun q hq => ?_
  by_cases e1 : q = p
  · subst e1
    have Bq := B.each q hq
    have e2 : onH q.2.name (fun h => { h with es := h.es ++ [em] }) q.2 = { q.2 with es := q.2.es ++ [em] } := if_pos rfl
    rw [e2]
    obtain ⟨us', g1, g2⟩ := Bq.en
    rw [e] at g1
    injection g1 with g1
    injection g1 with g1
    refine ⟨k1 _ _ (fun z => B.ln hq hq (List.mem_singleton.mp z)) Bq.obj, kt _ _ Bq.rm, us ++ [u], by rw [List.map_append]; exact ed, ?_⟩
    have e3 : ({ q.2 with es := q.2.es ++ [em] } : Hm).bs = q.2.bs ++ [em.x] := by
      unfold Hm.bs
      rw [List.map_append]
      rfl
    rw [e3]
    have e4 : us = us' := refs_one g1
    subst e4
    exact paired_snoc (g2.mono fun _ _ g => g.kt kt) (hu.kt kt)
  · have e2 : onH p.2.name (fun h => { h with es := h.es ++ [em] }) q.2 = q.2 := if_neg fun z => e1 (B.nd2 _ hq _ hp z)
    rw [e2]
    exact (B.each q hq).kp k1 kt (fun z => B.ln hq hp (List.mem_singleton.mp z)) fun z => e1 (nodup_inj B.ns q hq p hp (List.mem_singleton.mp z))
/-- a house's state -/
theorem KdAt.setS (B : KdAt H D L) {p : Kd2} (hp : p ∈ L) {st : Str} : KdAt (upd H p.1.l (.lst [.str p.2.yard, .ref p.1.r, .str st, .ref p.1.n])) D (L.map fun q => (q.1, setH p.2.name st q.2)) := by
  have k1 : Kp [p.1.l] H (upd H p.1.l (.lst [.str p.2.yard, .ref p.1.r, .str st, .ref p.1.n])) := kp_upd (List.mem_singleton.mpr rfl)
  have kt : KTu H (upd H p.1.l (.lst [.str p.2.yard, .ref p.1.r, .str st, .ref p.1.n])) := kt_put (B.each p hp).obj (fun xs z => by cases z)
  have ed : upd H p.1.l (.lst [.str p.2.yard, .ref p.1.r, .str st, .ref p.1.n]) p.1.l = some (.lst [.str p.2.yard, .ref p.1.r, .str st, .ref p.1.n]) := upd_same
  generalize upd H p.1.l (.lst [.str p.2.yard, .ref p.1.r, .str st, .ref p.1.n]) = H1 at k1 kt ed ⊢
  refine B.inplace (fun h => set_name _ _ h) (k1 _ _ (fun z => (B.dl hp).1 (List.mem_singleton.mp z).symm) B.obj) fun q hq => ?_
  by_cases e1 : q = p
  · subst e1
    have Bq := B.each q hq
    have e2 : setH q.2.name st q.2 = { q.2 with state := st } := if_pos rfl
    rw [e2]
    obtain ⟨us', g1, g2⟩ := Bq.en
    exact ⟨ed, kt _ _ Bq.rm, us', k1 _ _ (fun z => B.ln hq hq (List.mem_singleton.mp z).symm) g1, g2.mono fun _ _ g => g.kt kt⟩
  · have e2 : setH p.2.name st q.2 = q.2 := if_neg fun z => e1 (B.nd2 _ hq _ hp z)
    rw [e2]
    exact (B.each q hq).kp k1 kt (fun z => e1 (nodup_inj B.ls q hq p hp (List.mem_singleton.mp z))) fun z => B.ln hp hq (List.mem_singleton.mp z).symm
/-- a house more -/
theorem KdAt.add (B : KdAt H D L) {x : KAd} {h : Hm} (hz : h.name ∉ L.map (·.2.name)) (few : L.length < 60) (X : KhAt H x h) (nl : ∀ p ∈ L, x.l ≠ p.1.l) (nn : ∀ p ∈ L, x.n ≠ p.1.n) (o : H D = some (.dK (kkv L))) :
    KdAt (upd H D (.dK (putK (kkv L) (Sum.inr h.name) (.ref x.l)))) D (L ++ [(x, h)]) := by
  have k1 : Kp [D] H (upd H D (.dK (putK (kkv L) (Sum.inr h.name) (.ref x.l)))) := kp_upd (List.mem_singleton.mpr rfl)
  have kt : KTu H (upd H D (.dK (putK (kkv L) (Sum.inr h.name) (.ref x.l)))) := kt_put o (fun xs z => by cases z)
  have ed : upd H D (.dK (putK (kkv L) (Sum.inr h.name) (.ref x.l))) D = some (.dK (putK (kkv L) (Sum.inr h.name) (.ref x.l))) := upd_same
  generalize upd H D (.dK (putK (kkv L) (Sum.inr h.name) (.ref x.l))) = H1 at k1 kt ed ⊢
  have app : putK (kkv L) (Sum.inr h.name : Key) (.ref x.l) = kkv (L ++ [(x, h)]) := by
    rw [putK_app fun p hp e1 => hz (by
      unfold kkv at hp
      obtain ⟨q, hq, rfl⟩ := List.mem_map.mp hp
      exact List.mem_map.mpr ⟨q, hq, Sum.inr.inj e1⟩)]
    unfold kkv
    rw [List.map_append]
    rfl
  have xl : x.l ≠ D := fun z => by
    have := X.obj
    rw [z, o] at this
    cases this
  have xn : x.n ≠ D := fun z => by
    obtain ⟨us, g, _⟩ := X.en
    rw [z, o] at g
    cases g
  refine ⟨by rw [← app]; exact ed, fun q hq => ?_, ?_, ?_, ?_, by rw [List.length_append, List.length_singleton]; omega⟩
  · rcases List.mem_append.mp hq with hq | hq
    · exact (B.each q hq).kp k1 kt (fun z => (B.dl hq).1 (List.mem_singleton.mp z)) fun z => (B.dl hq).2 (List.mem_singleton.mp z)
    · rw [List.mem_singleton.mp hq]
      exact X.kp k1 kt (fun z => xl (List.mem_singleton.mp z)) fun z => xn (List.mem_singleton.mp z)
  · rw [List.map_append]
    exact List.nodup_append.mpr ⟨B.nd, by simp, fun a ha b hb e => hz (by
      have e : a = h.name := e.trans (List.mem_singleton.mp hb)
      rw [← e]
      exact ha)⟩
  · rw [List.map_append]
    refine List.nodup_append.mpr ⟨B.ls, by simp, fun a ha b hb e => ?_⟩
    obtain ⟨p, hp, rfl⟩ := List.mem_map.mp ha
    exact nl p hp (e.trans (List.mem_singleton.mp hb)).symm
  · rw [List.map_append]
    refine List.nodup_append.mpr ⟨B.ns, by simp, fun a ha b hb e => ?_⟩
    obtain ⟨p, hp, rfl⟩ := List.mem_map.mp ha
    exact nn p hp (e.trans (List.mem_singleton.mp hb)).symm
end
end My
set_option maxHeartbeats 1000000
/-! the open houses with what is left, as houses of a site -/
namespace My
open PySem PySem.W PySem.Spec PyProof.Rows L2 GX GxR
def Hows4 : List Str := ["any", "apart", "near", "wide"]
/-- the bounds of what the law keeps -/
structure KOk (W : Nat) (M : List Hm) : Prop where
  w1 : 1 ≤ W
  w8 : W ≤ 8
  few : M.length ≤ 16
  nd : (M.map (·.name)).Nodup
  room : ∀ h ∈ M, h.room.length = W ∧ ∀ n ∈ h.room, 0 ≤ n ∧ n ≤ 1000000000000
  es : ∀ h ∈ M, h.es.length ≤ 40
  am : ∀ h ∈ M, ∀ em ∈ h.es, em.x.am.length = W
  tx : ∀ h ∈ M, PySem.PyData.strOk h.name = true ∧ PySem.PyData.strOk h.yard = true
  left : ∀ h ∈ M, ∀ b t, b < t → ∀ n ∈ siteL b t h, 0 ≤ n
theorem leftTs_le {room : List Int} {rs : List Bw} {ts : List Int} : ∀ n ∈ leftTs room rs ts, ∃ m ∈ room, n ≤ m := by
  unfold leftTs
  have : ∀ (ts acc : List Int), (∀ n ∈ acc, ∃ m ∈ room, n ≤ m) → ∀ n ∈ ts.foldl (fun acc t => List.zipWith minI acc (lessL room (netB room.length rs t))) acc, ∃ m ∈ room, n ≤ m := by
    intro ts
    induction ts with
    | nil => exact fun _ h => h
    | cons t ts ih =>
      intro acc h
      rw [List.foldl_cons]
      refine ih _ fun n hn => ?_
      obtain ⟨i, hi⟩ := List.mem_iff_getElem?.mp hn
      rw [List.getElem?_zipWith] at hi
      cases h1 : acc[i]? with
      | none => rw [h1] at hi; cases hi
      | some a =>
        cases h2 : (lessL room (netB room.length rs t))[i]? with
        | none => rw [h1, h2] at hi; cases hi
        | some c =>
          rw [h1, h2] at hi
          have e : minI a c = n := Option.some.inj hi
          obtain ⟨m, hm, hl⟩ := h a (List.mem_of_getElem? h1)
          refine ⟨m, hm, ?_⟩
          rw [← e]
          unfold minI
          split <;> omega
  exact this ts room fun n hn => ⟨n, hn, Int.le_refl _⟩
end My
namespace My
open PySem PySem.Spec PyProof.Rows L2 GX GxR
/-- a gang -/
def GangT (H : Hp) (g wt : Addr) (z gd how : Str) (rk many ln : Int) (want : List Int) : Prop := H g = some (.tup [.str z, .str gd, .int rk, .int many, .ref wt, .str how, .int ln]) ∧ H wt = some (.tup (want.map V.int))
structure GOk (W : Nat) (how : Str) (many ln : Int) (want : List Int) : Prop where
  wl : want.length = W
  am : Amt want
  nz : ∃ n ∈ want, n ≠ 0
  m1 : 1 ≤ many
  m60 : many ≤ 60
  hw : how ∈ Hows4
  l1 : 0 < ln
  l2 : ln ≤ 1000
end My
/-! slices and sums of tuples as values -/
namespace My
open PySem PySem.Spec PyProof.Rows L2 GX GxR
theorem slA_of {K : PySem.W.Frag} {H : Hp} {a : Addr} {xs : List V} {lo hi : Option Int} {Q : VK} (e : H a = some (.tup xs)) (q : ∀ p H', Same H H' → H' p = some (.tup (cutV xs lo hi)) → Q (.ref p) H') : rSlA K (.ref a) lo hi H Q := by
  refine ⟨a, xs, rfl, SqT.of e, fun w => q a H (Same.refl _) ?_, fun _ p np => q p _ (same_upd np) upd_same⟩
  rw [e]
  unfold cutV
  rw [w.1, w.2, List.drop_zero, Nat.sub_zero, List.take_length]
theorem catA_of {K : PySem.W.Frag} {H : Hp} {a b : Addr} {xs ys : List V} {Q : VK} (ea : H a = some (.tup xs)) (eb : H b = some (.tup ys)) (hz : xs.length + ys.length ≤ sizeLine) (q : ∀ p H', Same H H' → H' p = some (.tup (xs ++ ys)) → Q (.ref p) H') : rCatA K (.ref a) (.ref b) H Q := by
  refine ⟨a, b, xs, ys, rfl, rfl, SqT.of ea, SqT.of eb, hz, fun h => q b H (Same.refl _) ?_, fun _ h => q a H (Same.refl _) ?_, fun _ _ p np => q p _ (same_upd np) upd_same⟩
  · rw [eb, h]; rfl
  · rw [ea, h, List.append_nil]
/-- all but the last -/
theorem cutV_last (xs : List V) (h : 1 ≤ xs.length) : cutV xs none (some (-1)) = xs.take (xs.length - 1) := by
  unfold cutV
  have e1 : HT.sIx xs.length 0 none = 0 := rfl
  have e2 : HT.sIx xs.length xs.length (some (-1)) = xs.length - 1 := by
    unfold HT.sIx
    simp
    omega
  rw [e1, e2, List.drop_zero]
  rfl
theorem sum_zero : ∀ {ns : List Int}, (∀ n ∈ ns, n = 0) → ns.sum = 0
  | [], _ => rfl
  | n :: ns, h => by rw [List.sum_cons, h n List.mem_cons_self, sum_zero fun m hm => h m (List.mem_cons_of_mem _ hm)]; rfl
theorem sum_nnS : ∀ {ns : List Int}, (∀ n ∈ ns, 0 ≤ n) → 0 ≤ ns.sum
  | [], _ => Int.le_refl _
  | n :: ns, h => by
    rw [List.sum_cons]
    have h0 := h n List.mem_cons_self
    have h1 := sum_nnS (ns := ns) fun x hx => h x (List.mem_cons_of_mem _ hx)
    omega
theorem zero_sum : ∀ {ns : List Int}, (∀ n ∈ ns, 0 ≤ n) → ns.sum = 0 → ∀ n ∈ ns, n = 0
  | [], _, _, n, hn => nomatch hn
  | m :: ns, h, e, n, hn => by
    rw [List.sum_cons] at e
    have h0 := h m List.mem_cons_self
    have h1 : 0 ≤ ns.sum := sum_nnS fun x hx => h x (List.mem_cons_of_mem _ hx)
    rcases List.mem_cons.mp hn with rfl | hn
    · omega
    · exact zero_sum (fun x hx => h x (List.mem_cons_of_mem _ hx)) (by omega) n hn
end My
set_option maxHeartbeats 4000000
namespace My
open PySem PySem.Spec PyProof.Rows L2 GX GxR
abbrev s_scWnt : Stmt := topS 34
abbrev n_scWnt : List Str := ["_law_box_here", "_law_wares", "_law_want_here", "_law_k"]
theorem scWnt : FnScope n_scWnt ["_law_box_here", "_law_wares"] (defScope s_scWnt) := ⟨rfl, rfl, rfl, by decide +kernel, rfl, by decide +kernel, by decide +kernel⟩
abbrev s_scGng : Stmt := topS 36
abbrev n_scGng : List Str := ["_law_box_here", "_law_name_here", "_law_wares", "_law_how", "_law_many"]
theorem scGng : FnScope n_scGng ["_law_box_here", "_law_name_here", "_law_wares"] (defScope s_scGng) := ⟨rfl, rfl, rfl, by decide +kernel, rfl, by decide +kernel, by decide +kernel⟩
def spWWnt : Sp := fun vs H Q _ => ∃ (b : Addr) (c : Int) (W : Nat), vs = [.ref b, .int (W : Int)] ∧ BoxAt H b c ∧ c ≤ 1000000 ∧ 1 ≤ W ∧ W ≤ 8 ∧
  ∀ (t : Addr) (ns : List Int) (H' : Hp), Kp [b] H H' → BoxAt H' b (c + 20) → H t = none → H' t = some (.tup (ns.map V.int)) → ns.length = W → (∀ n ∈ ns, 0 ≤ n ∧ n ≤ 8) → (∃ n ∈ ns, n ≠ 0) → Q (.ref t) H'
def spWGng : Sp := fun vs H Q _ => ∃ (b : Addr) (c : Int) (z : Str) (W : Nat), vs = [.ref b, .str z, .int (W : Int)] ∧ BoxAt H b c ∧ c ≤ 900000 ∧ 1 ≤ W ∧ W ≤ 8 ∧
  ∀ (g wt : Addr) (how : Str) (rk many ln : Int) (want : List Int) (H' : Hp), Kp [b] H H' → BoxAt H' b (c + 30) → H g = none → H wt = none → GangT H' g wt z "guild" how rk many ln want → GOk W how many ln want → many ≤ 20 → ln ≤ 9 → (∀ n ∈ want, n ≤ 8) → Q (.ref g) H'
section
variable {P : Program} {w : World} {K : PySem.W.Frag} {mg : Str → Option Value} {base : Heap}
theorem ok_wwnt {f fT : Addr} {fd fdT : FuncData} {k : Nat} (F : Fun K "_law_want" "_law_want" s_scWnt f fd) (X : Txt mg) (mSum : mg "sum" = none)
    (GT : FnOk P w K mg base CX0 k fT fdT ["_law_box_here", "_law_many"] spTakeW) (mT : mg "_law_take" = some (.ref fT)) (kT : PySem.W.keepIn K (.ref fT) = true) (bT : L2.Binds K fdT ["_law_box_here", "_law_many"] []) :
    FnOk P w K mg base CX0 (k + 1) f fd ["_law_box_here", "_law_wares"] spWWnt := by
  refine F.ok scWnt (fun vs H Q E h => ?_) (fun cdv A outer s H vs Q E hr h => ?_)
  · obtain ⟨b, c, W, rfl, _⟩ := h
    rfl
  · obtain ⟨b, c, W, rfl, B, hc, w1, w8, q⟩ := h
    refine ⟨_, (pss_cons (ps_set (i := 2) scWnt.nd rfl (.inl rfl) (pe_callTy call_tuple_of (by rfl) X.tup bt_tuple (pa_cons (pe_lc (own := [("_law_k", 3)]) (g := (gName 3)) (tt := tYes) rfl scWnt.nd (pi_range1 (by rfl) X.range (pa_cons (pv 1) pa_nil)) (blkOk_by (own := [("_law_k", 3)]) (N := n_scWnt) (sc := defScope s_scWnt) (by decide +kernel)) (fun _ _ _ _ _ => (pg_name (i := 3) scWnt.nd rfl (.inl rfl))) (fun _ _ _ _ _ => pts_nil) (fun _ _ _ _ _ => (pe_call GT hr (by rfl) mT kT bT .nil pass0 (pa_cons (pv 0) (pa_cons (pe_ix (r := rIxL K) ix_list (pe_lst (pa_cons pe_int (pa_cons pe_int (pa_cons pe_int pa_nil)))) (pe_call GT hr (by rfl) mT kT bT .nil pass0 (pa_cons (pv 0) (pa_cons pe_int pa_nil))) (fun _ _ => rfl)) pa_nil))))) pa_nil)))
(C8.pss_cut (ps_if (pt_cmpR op_eq (pe_callB (SMT.cr_sumT rfl) (by rfl) mSum (by decide +kernel) (pa_cons (pv 2) pa_nil)) pe_int (nomark _))
  (pss_one (ps_ret (pe_op op_catA (pe_slice sl_tupA (pv 2) po_none (po_some (pe_un un_neg pe_int))) (pe_tup (pa_cons pe_int pa_nil)))))
  pss_nil)
(pss_one (ps_ret (pv 2))))), ?_⟩
    refine ⟨_, rfl, (W : Int), rfl, by omega, by omega, fun D nD => ?_⟩
    rw [Int.toNat_natCast]
    have Db : D ≠ b := nb_of B nD
    have Db' : D ∉ [b] := fun z => Db (List.mem_singleton.mp z)
    refine lc_range (lo := 0) (n := W) (fun i H' => Kp [b] H H' ∧ BoxAt H' b (c + 2 * (i : Int)) ∧ ∃ ns : List Int, H' D = some (.lst (ns.map V.int)) ∧ ns.length = i ∧ ∀ n ∈ ns, 0 ≤ n ∧ n ≤ 8)
      ⟨Same.kp _ (same_upd nD), (B.same (same_upd nD)).le (by omega), [], upd_same, rfl, fun _ h => nomatch h⟩ (fun i H1 hi p => ?_) (fun H1 p => ?_)
    · obtain ⟨p1, p2, ns, p3, p4, p5⟩ := p
      refine ⟨rfl, ?_⟩
      refine ⟨_, rfl, by show 3 ≤ sizeLine; decide, fun l nl => ?_⟩
      have s1 := same_upd (o := .lst [V.int 2, .int 4, .int 9]) nl
      have e1 : upd H1 l (.lst [V.int 2, .int 4, .int 9]) l = some (.lst [V.int 2, .int 4, .int 9]) := upd_same
      have lb := nb_of p2 nl
      have B1 := p2.same s1
      have k1 := kp_new (o := .lst [V.int 2, .int 4, .int 9]) p1 nl
      have p3' := s1 _ _ p3
      generalize upd H1 l (.lst [V.int 2, .int 4, .int 9]) = H2 at e1 B1 k1 p3' ⊢
      refine ⟨_, rfl, b, _, 3, rfl, B1, by decide, by decide, by omega, fun r1 H3 a1 b1 k3 B3 => ?_⟩
      have e3 := k3 _ _ (fun z => lb (List.mem_singleton.mp z)) e1
      obtain ⟨sz, hsz, z0, z1⟩ : ∃ sz : Int, atI [V.int 2, .int 4, .int 9] r1 = some (.int sz) ∧ 1 ≤ sz ∧ sz ≤ 9 := by
        have : r1 = 0 ∨ r1 = 1 ∨ r1 = 2 := by omega
        rcases this with rfl | rfl | rfl
        · exact ⟨2, rfl, by decide, by decide⟩
        · exact ⟨4, rfl, by decide, by decide⟩
        · exact ⟨9, rfl, by decide, by decide⟩
      refine ⟨l, _, _, .int sz, rfl, rfl, SqL.of e3, hsz, ?_⟩
      refine ⟨b, _, sz, rfl, B3, by omega, by omega, by omega, fun r H4 a b' k4 B4 => ?_⟩
      have e4 := k4 _ _ Db' (k3 _ _ Db' p3')
      refine ⟨_, e4, by rw [List.length_map, p4]; exact small63 (by omega), kp_put ((k1.trans k3).trans k4) nD, ?_, ns ++ [r], by rw [upd_same, List.map_append]; rfl, by rw [List.length_append, p4]; rfl, fun x hx => ?_⟩
      · obtain ⟨xs, h1, h2⟩ := B4.le (c' := c + 2 * ((i + 1 : Nat) : Int)) (by omega)
        exact ⟨xs, by rw [upd_ne Db.symm]; exact h1, h2⟩
      · rcases List.mem_append.mp hx with hx | hx
        · exact p5 x hx
        · rw [List.mem_singleton.mp hx]
          omega
    · obtain ⟨p1, p2, ns, p3, p4, p5⟩ := p
      refine ⟨D, _, rfl, .inl ⟨SqL.of p3, fun t nt => ?_⟩⟩
      have k2 := kp_new (o := .tup (ns.map V.int)) p1 nt
      have et : upd H1 t (.tup (ns.map V.int)) t = some (.tup (ns.map V.int)) := upd_same
      have B2 := p2.same (same_upd (o := .tup (ns.map V.int)) nt)
      have nt0 := box_free p2 p1 nt
      generalize upd H1 t (.tup (ns.map V.int)) = H2 at k2 et B2 ⊢
      refine ⟨fun σ H' => σ = [some (.ref b), some (.int (W : Int)), some (.ref t), none] ∧ H' = H2 ∧ ns.sum ≠ 0, ?_, fun σ H' hm => ?_⟩
      · refine ⟨_, rfl, t, ns, rfl, SqT.of et, rfl, _, rfl, ite2 (fun h0 => ?_) (fun h0 => ⟨rfl, rfl, fun z => h0 (decide_eq_true (by rw [z]))⟩)⟩
        have z0 : ns.sum = 0 := V.int.inj (of_decide_eq_true h0)
        have az := zero_sum (fun n hn => (p5 n hn).1) z0
        refine ⟨_, rfl, 1, rfl, _, rfl, slA_of et fun p1 H3 s3 e3 => ?_⟩
        rw [cutV_last _ (by rw [List.length_map]; omega), List.length_map] at e3
        refine ⟨by show 1 ≤ sizeLine; decide, fun t1 nt1 => ?_⟩
        have s4 : Same H3 (upd H3 t1 (.tup [V.int 1])) := same_upd nt1
        have e4 : upd H3 t1 (.tup [V.int 1]) t1 = some (.tup [V.int 1]) := upd_same
        have e34 := s4 _ _ e3
        generalize upd H3 t1 (.tup [V.int 1]) = H4 at s4 e4 e34 ⊢
        have s24 := s3.trans s4
        have k4 := k2.trans (Same.kp [b] s24)
        have B4 := B2.same s24
        have lw : (ns.take (W - 1)).length = W - 1 := by rw [List.length_take]; omega
        refine ⟨p1, t1, _, _, rfl, rfl, SqT.of e34, SqT.of e4, by rw [p4, ← List.map_take, List.length_map, lw]; exact Nat.le_trans (show _ ≤ 9 by show W - 1 + 1 ≤ 9; omega) (by decide), fun hz => ?_, (fun _ hz => by cases hz), fun _ _ p np => ?_⟩
        · have hw : W = 1 := by
            rw [p4, ← List.map_take] at hz
            have := congrArg List.length hz
            rw [List.length_map, lw] at this
            have h0 : W - 1 = 0 := this
            omega
          refine q t1 [1] H4 k4 (B4.le (by omega)) (box_free (B2.same s3) (k2.trans (Same.kp [b] s3)) nt1) e4 (by rw [hw]; rfl) (fun n hn => ?_) ⟨1, List.mem_singleton.mpr rfl, by decide⟩
          rw [List.mem_singleton.mp hn]
          decide
        · rw [p4, ← List.map_take, show [V.int 1] = [(1 : Int)].map V.int from rfl, ← List.map_append]
          refine q p (ns.take (W - 1) ++ [1]) _ (kp_new k4 np) ((B4.same (same_upd np)).le (by omega)) (box_free B4 k4 np) upd_same (by rw [List.length_append, lw]; show W - 1 + 1 = W; omega) (fun n hn => ?_) ⟨1, List.mem_append_right _ (List.mem_singleton.mpr rfl), by decide⟩
          rcases List.mem_append.mp hn with hn | hn
          · exact p5 n (List.mem_of_mem_take hn)
          · rw [List.mem_singleton.mp hn]
            decide
      · obtain ⟨rfl, rfl, h0⟩ := hm
        refine ⟨_, rfl, q t ns _ k2 (B2.le (by omega)) nt0 et p4 p5 ?_⟩
        apply Classical.byContradiction
        intro hno
        refine h0 ?_
        have : ∀ n ∈ ns, n = 0 := fun n hn => Classical.byContradiction fun z => hno ⟨n, hn, z⟩
        exact sum_zero this
theorem ok_wgng {f fT fW : Addr} {fd fdT fdW : FuncData} {k : Nat} (F : Fun K "_law_gang" "_law_gang" s_scGng f fd) (X : Txt mg)
    (GT : FnOk P w K mg base CX0 k fT fdT ["_law_box_here", "_law_many"] spTakeW) (mT : mg "_law_take" = some (.ref fT)) (kT : PySem.W.keepIn K (.ref fT) = true) (bT : L2.Binds K fdT ["_law_box_here", "_law_many"] [])
    (GW : FnOk P w K mg base CX0 k fW fdW ["_law_box_here", "_law_wares"] spWWnt) (mW : mg "_law_want" = some (.ref fW)) (kW : PySem.W.keepIn K (.ref fW) = true) (bW : L2.Binds K fdW ["_law_box_here", "_law_wares"] []) :
    FnOk P w K mg base CX0 (k + 1) f fd ["_law_box_here", "_law_name_here", "_law_wares"] spWGng := by
  refine F.ok scGng (fun vs H Q E h => ?_) (fun cdv A outer s H vs Q E hr h => ?_)
  · obtain ⟨b, c, z, W, rfl, _⟩ := h
    rfl
  · obtain ⟨b, c, z, W, rfl, B, hc, w1, w8, q⟩ := h
    refine ⟨_, (pss_cons (ps_set (i := 3) scGng.nd rfl (.inl rfl) (pe_ix ix_list (pe_lst (pa_cons pe_str (pa_cons pe_str (pa_cons pe_str (pa_cons pe_str (pa_cons pe_str pa_nil)))))) (pe_call GT hr (by rfl) mT kT bT .nil pass0 (pa_cons (pv 0) (pa_cons pe_int pa_nil))) (fun _ _ => rfl)))
(pss_cons (ps_set (i := 4) scGng.nd rfl (.inl rfl) (pe_op op_add pe_int (pe_call GT hr (by rfl) mT kT bT .nil pass0 (pa_cons (pv 0) (pa_cons (pe_ix ix_list (pe_lst (pa_cons pe_int (pa_cons pe_int (pa_cons pe_int pa_nil)))) (pe_call GT hr (by rfl) mT kT bT .nil pass0 (pa_cons (pv 0) (pa_cons pe_int pa_nil))) (fun _ _ => rfl)) pa_nil)))))
(pss_one (ps_ret (pe_tup (pa_cons (pv 1) (pa_cons pe_str (pa_cons (pe_call GT hr (by rfl) mT kT bT .nil pass0 (pa_cons (pv 0) (pa_cons pe_int pa_nil))) (pa_cons (pv 4) (pa_cons (pe_call GW hr (by rfl) mW kW bW .nil pass0 (pa_cons (pv 0) (pa_cons (pv 2) pa_nil))) (pa_cons (pv 3) (pa_cons (pe_op op_add pe_int (pe_call GT hr (by rfl) mT kT bT .nil pass0 (pa_cons (pv 0) (pa_cons pe_int pa_nil)))) pa_nil)))))))))))), ?_⟩
    refine ⟨by show 5 ≤ sizeLine; decide, fun l nl => ?_⟩
    have s1 := same_upd (o := .lst [V.str "any", .str "any", .str "apart", .str "near", .str "wide"]) nl
    have e1 : upd H l (.lst [V.str "any", .str "any", .str "apart", .str "near", .str "wide"]) l = some (.lst [V.str "any", .str "any", .str "apart", .str "near", .str "wide"]) := upd_same
    have lb := nb_of B nl
    have B1 := B.same s1
    have k1 : Kp [b] H (upd H l (.lst [V.str "any", .str "any", .str "apart", .str "near", .str "wide"])) := Same.kp _ s1
    generalize upd H l (.lst [V.str "any", .str "any", .str "apart", .str "near", .str "wide"]) = H1 at e1 B1 k1 ⊢
    refine ⟨_, rfl, b, _, 5, rfl, B1, by decide, by decide, by omega, fun r1 H2 a1 b1 k2 B2 => ?_⟩
    have e2 := k2 _ _ (fun z => lb (List.mem_singleton.mp z)) e1
    have k12 := k1.trans k2
    obtain ⟨how, hhow, hh⟩ : ∃ how : Str, atI [V.str "any", .str "any", .str "apart", .str "near", .str "wide"] r1 = some (.str how) ∧ how ∈ Hows4 := by
      have : r1 = 0 ∨ r1 = 1 ∨ r1 = 2 ∨ r1 = 3 ∨ r1 = 4 := by omega
      rcases this with rfl | rfl | rfl | rfl | rfl
      · exact ⟨"any", rfl, by decide⟩
      · exact ⟨"any", rfl, by decide⟩
      · exact ⟨"apart", rfl, by decide⟩
      · exact ⟨"near", rfl, by decide⟩
      · exact ⟨"wide", rfl, by decide⟩
    refine ⟨l, _, _, .str how, rfl, rfl, SqL.of e2, hhow, ?_⟩
    have k1' := k12
    clear e1 e2 k1 k2 B1 s1
    refine ⟨_, rfl, by show 3 ≤ sizeLine; decide, fun l2 nl2 => ?_⟩
    have lb2 := nb_of B2 nl2
    have s3 := same_upd (o := .lst [V.int 3, .int 6, .int 20]) nl2
    have e3 : upd H2 l2 (.lst [V.int 3, .int 6, .int 20]) l2 = some (.lst [V.int 3, .int 6, .int 20]) := upd_same
    have B3 := B2.same s3
    have k3 : Kp [b] H2 (upd H2 l2 (.lst [V.int 3, .int 6, .int 20])) := Same.kp _ s3
    generalize upd H2 l2 (.lst [V.int 3, .int 6, .int 20]) = H3 at e3 B3 k3 ⊢
    refine ⟨_, rfl, b, _, 3, rfl, B3, by decide, by decide, by omega, fun r2 H4 a2 b2 k4 B4 => ?_⟩
    have e4 := k4 _ _ (fun z => lb2 (List.mem_singleton.mp z)) e3
    obtain ⟨sz, hsz, z0, z1⟩ : ∃ sz : Int, atI [V.int 3, .int 6, .int 20] r2 = some (.int sz) ∧ 1 ≤ sz ∧ sz ≤ 20 := by
      have : r2 = 0 ∨ r2 = 1 ∨ r2 = 2 := by omega
      rcases this with rfl | rfl | rfl
      · exact ⟨3, rfl, by decide, by decide⟩
      · exact ⟨6, rfl, by decide, by decide⟩
      · exact ⟨20, rfl, by decide, by decide⟩
    refine ⟨l2, _, _, .int sz, rfl, rfl, SqL.of e4, hsz, ?_⟩
    refine ⟨b, _, sz, rfl, B4, by omega, by omega, by omega, fun r3 H5 a3 b3 k5 B5 => ?_⟩
    refine ⟨1, r3, rfl, rfl, ?_⟩
    have k15 := (k3.trans k4).trans k5
    clear e3 e4 k3 k4 k5 B3 B4 s3 k12 lb lb2
    refine ⟨_, rfl, _, rfl, b, _, 10, rfl, B5, by decide, by decide, by omega, fun r4 H6 a4 b4 k6 B6 => ?_⟩
    refine ⟨_, rfl, _, rfl, _, rfl, b, _, W, rfl, B6, by omega, w1, w8, fun wt ns H7 k7 B7 nwt ewt lns nns nz => ?_⟩
    refine ⟨_, rfl, _, rfl, b, _, 9, rfl, B7, by decide, by decide, by omega, fun r5 H8 a5 b5 k8 B8 => ?_⟩
    refine ⟨1, r5, rfl, rfl, by show 7 ≤ sizeLine; decide, fun g ng => ?_⟩
    have wtb : wt ∉ [b] := fun z => nb_of B6 nwt (List.mem_singleton.mp z)
    have ew8 := k8 _ _ wtb ewt
    have k18 := (k15.trans k6).trans (k7.trans k8)
    have kk := (k1'.trans k18)
    refine q g wt how r4 (1 + r3) (1 + r5) ns _ (kp_new kk ng) ((B8.same (same_upd ng)).le (by omega)) (box_free B8 kk ng) (box_free B6 (k1'.trans (k15.trans k6)) nwt) ⟨upd_same, same_upd ng _ _ ew8⟩ ⟨lns, fun n hn => ⟨(nns n hn).1, by have := (nns n hn).2; omega⟩, nz, by omega, by omega, hh, by omega, by omega⟩ (by omega) (by omega) fun n hn => (nns n hn).2
end
end My
namespace My
open PySem PySem.Spec PyProof.Rows L2 GX GxR
/-- how often each number that is wanted goes into the room's -/
def quots : List Int → List Int → List Int
  | x :: xs, y :: ys => if 0 < x then y / x :: quots xs ys else quots xs ys
  | _, _ => []
theorem quots_snoc : ∀ (xs ys : List Int) (x y : Int), xs.length = ys.length → quots (xs ++ [x]) (ys ++ [y]) = quots xs ys ++ (if 0 < x then [y / x] else [])
  | [], [], x, y, _ => rfl
  | a :: xs, b :: ys, x, y, h => by
    have ih := quots_snoc xs ys x y (by simpa using h)
    show (if 0 < a then b / a :: quots (xs ++ [x]) (ys ++ [y]) else quots (xs ++ [x]) (ys ++ [y])) = (if 0 < a then b / a :: quots xs ys else quots xs ys) ++ _
    rw [ih]
    split <;> rfl
theorem quots_len : ∀ xs ys : List Int, (quots xs ys).length ≤ xs.length
  | [], _ => Nat.zero_le _
  | _ :: _, [] => Nat.zero_le _
  | x :: xs, y :: ys => by
    have ih := quots_len xs ys
    show (if 0 < x then y / x :: quots xs ys else quots xs ys).length ≤ xs.length + 1
    split
    · rw [List.length_cons]
      omega
    · omega
def fitN (xs : List Int) (n : Int) (ys : List Int) : Bool := (List.zipWith (fun x y : Int => decide (x * n ≤ y)) xs ys).all _root_.id
theorem quots_ne : ∀ xs ys : List Int, xs.length = ys.length → (∃ x ∈ xs, 0 < x) → quots xs ys ≠ []
  | [], _, _, ⟨_, h, _⟩ => by cases h
  | x :: xs, y :: ys, hl, ⟨z, hz, h0⟩ => by
    show (if 0 < x then y / x :: quots xs ys else quots xs ys) ≠ []
    by_cases hx : 0 < x
    · rw [if_pos hx]
      exact List.cons_ne_nil _ _
    · rw [if_neg hx]
      rcases List.mem_cons.mp hz with e | e
      · rw [e] at h0
        exact absurd h0 hx
      · exact quots_ne xs ys (by simpa using hl) ⟨z, e, h0⟩
theorem fits_most : ∀ (xs ys : List Int) (m : Int), (∀ x ∈ xs, 0 ≤ x) → (∀ y ∈ ys, 0 ≤ y) → (∀ z ∈ quots xs ys, m ≤ z) → fitN xs m ys = true
  | [], _, _, _, _, _ => rfl
  | _ :: _, [], _, _, _, _ => rfl
  | x :: xs, y :: ys, m, hx, hy, hq => by
    have x0 := hx x List.mem_cons_self
    have y0 := hy y List.mem_cons_self
    have hsub : ∀ z ∈ quots xs ys, m ≤ z := fun z hz => hq z (by
      show z ∈ (if 0 < x then y / x :: quots xs ys else quots xs ys)
      split
      · exact List.mem_cons_of_mem _ hz
      · exact hz)
    have ih := fits_most xs ys m (fun z h => hx z (List.mem_cons_of_mem _ h)) (fun z h => hy z (List.mem_cons_of_mem _ h)) hsub
    have h1 : x * m ≤ y := by
      by_cases hp : 0 < x
      · have h2 : m ≤ y / x := hq _ (by
          show y / x ∈ (if 0 < x then y / x :: quots xs ys else quots xs ys)
          rw [if_pos hp]
          exact List.mem_cons_self)
        have h3 := (Int.le_ediv_iff_mul_le hp).mp h2
        rw [Int.mul_comm] at h3
        exact h3
      · have : x = 0 := by omega
        rw [this, Int.zero_mul]
        exact y0
    unfold fitN at ih ⊢
    rw [List.zipWith_cons_cons, List.all_cons, ih, decide_eq_true h1]
    rfl
theorem fits_no_more : ∀ (xs ys : List Int) (m : Int), m ∈ quots xs ys → fitN xs (m + 1) ys = false
  | [], _, _, h => by cases h
  | _ :: _, [], _, h => by cases h
  | x :: xs, y :: ys, m, h => by
    have h' : m ∈ (if 0 < x then y / x :: quots xs ys else quots xs ys) := h
    unfold fitN
    rw [List.zipWith_cons_cons, List.all_cons]
    by_cases hp : 0 < x
    · rw [if_pos hp] at h'
      rcases List.mem_cons.mp h' with e | e
      · have h3 : ¬ x * (m + 1) ≤ y := fun z => by
          rw [Int.mul_comm] at z
          have h4 := (Int.le_ediv_iff_mul_le hp).mpr z
          omega
        rw [decide_eq_false h3]
        rfl
      · have ih := fits_no_more xs ys m e
        unfold fitN at ih
        rw [ih, Bool.and_false]
    · rw [if_neg hp] at h'
      have ih := fits_no_more xs ys m h'
      unfold fitN at ih
      rw [ih, Bool.and_false]
/-- the least of some numbers -/
def leastL : List Int → Int
  | [] => 0
  | x :: r => r.foldl min x
theorem fold_min_le : ∀ (r : List Int) (x : Int), r.foldl min x ≤ x ∧ (∀ y ∈ r, r.foldl min x ≤ y) ∧ (r.foldl min x = x ∨ r.foldl min x ∈ r)
  | [], x => ⟨Int.le_refl _, (fun _ h => nomatch h), .inl rfl⟩
  | y :: r, x => by
    obtain ⟨h1, h2, h3⟩ := fold_min_le r (min x y)
    show (r.foldl min (min x y)) ≤ x ∧ (∀ z ∈ y :: r, r.foldl min (min x y) ≤ z) ∧ (r.foldl min (min x y) = x ∨ r.foldl min (min x y) ∈ y :: r)
    refine ⟨by omega, fun z hz => ?_, ?_⟩
    · rcases List.mem_cons.mp hz with e | e
      · rw [e]; omega
      · exact h2 z e
    · rcases h3 with e | e
      · by_cases hxy : x ≤ y
        · left; omega
        · right; rw [e]; rw [show min x y = y by omega]; exact List.mem_cons_self
      · exact .inr (List.mem_cons_of_mem _ e)
theorem least_mem {l : List Int} (h : l ≠ []) : leastL l ∈ l ∧ ∀ z ∈ l, leastL l ≤ z := by
  cases l with
  | nil => exact absurd rfl h
  | cons x r =>
    obtain ⟨h1, h2, h3⟩ := fold_min_le r x
    refine ⟨?_, fun z hz => ?_⟩
    · rcases h3 with e | e
      · show r.foldl min x ∈ x :: r
        rw [e]; exact List.mem_cons_self
      · exact List.mem_cons_of_mem _ e
    · rcases List.mem_cons.mp hz with e | e
      · rw [e]; exact h1
      · exact h2 z e
/-- how often a want fits in what is left, at most so often -/
def cnt (most : Int) (xs ys : List Int) : Int := if leastL (quots xs ys) < most then leastL (quots xs ys) else most
theorem fit_iffQ {xs ys : List Int} {n : Int} (hx : ∀ x ∈ xs, 0 ≤ x) (hy : ∀ y ∈ ys, 0 ≤ y) (hl : xs.length = ys.length) (hne : quots xs ys ≠ []) : fitN xs n ys = decide (n ≤ leastL (quots xs ys)) := by
  obtain ⟨g1, g2⟩ := least_mem hne
  by_cases h : n ≤ leastL (quots xs ys)
  · rw [decide_eq_true h]
    exact fits_most xs ys n hx hy fun z hz => Int.le_trans h (g2 z hz)
  · rw [decide_eq_false h]
    have nf := fits_no_more xs ys _ g1
    cases e : fitN xs n ys with
    | false => rfl
    | true =>
      exfalso
      have mono : ∀ (xs ys : List Int) (a b : Int), (∀ x ∈ xs, 0 ≤ x) → a ≤ b → fitN xs b ys = true → fitN xs a ys = true := by
        intro xs
        induction xs with
        | nil => intro ys a b _ _ _; rfl
        | cons x xs ih =>
          intro ys a b hx hab hb
          cases ys with
          | nil => rfl
          | cons y ys =>
            unfold fitN at hb ⊢
            rw [List.zipWith_cons_cons, List.all_cons, Bool.and_eq_true] at hb ⊢
            refine ⟨decide_eq_true ?_, ih ys a b (fun z h => hx z (List.mem_cons_of_mem _ h)) hab hb.2⟩
            have h1 : x * b ≤ y := of_decide_eq_true hb.1
            exact Int.le_trans (Int.mul_le_mul_of_nonneg_left hab (hx x List.mem_cons_self)) h1
      have := mono xs ys (leastL (quots xs ys) + 1) n hx (by omega) e
      rw [nf] at this
      cases this
end My
set_option maxHeartbeats 4000000
namespace My
open PySem PySem.Spec PyProof.Rows L2 GX GxR
abbrev s_scOft : Stmt := topS 40
abbrev n_scOft : List Str := ["_law_want_here", "_law_room", "_law_most", "_law_one", "_law_have"]
theorem scOft : FnScope n_scOft ["_law_want_here", "_law_room", "_law_most"] (defScope s_scOft) := ⟨rfl, rfl, rfl, by decide +kernel, rfl, by decide +kernel, by decide +kernel⟩
def spWOft (K : PySem.W.Frag) : Sp := fun vs H Q _ => ∃ (a r : Addr) (most : Int) (xs ys : List Int), vs = [.ref a, .ref r, .int most] ∧ SqT K H a (xs.map V.int) ∧ SqT K H r (ys.map V.int) ∧ xs.length = ys.length ∧ xs.length ≤ 20 ∧ (∀ x ∈ xs, 0 ≤ x ∧ x ≤ 1000000000000) ∧ (∀ y ∈ ys, 0 ≤ y ∧ y ≤ 1000000000000) ∧ (∃ x ∈ xs, 0 < x) ∧ 0 ≤ most ∧ most ≤ 1000 ∧
  ∀ H', Same H H' → Q (.int (cnt most xs ys)) H'
section
variable {P : Program} {w : World} {K : PySem.W.Frag} {mg : Str → Option Value} {base : Heap}
theorem min_cntW {m most : Int} {xs ys : List Int} (hne : quots xs ys ≠ []) (h1 : m ∈ most :: quots xs ys) (h2 : ∀ y ∈ most :: quots xs ys, m ≤ y) : m = cnt most xs ys := by
  obtain ⟨g1, g2⟩ := least_mem hne
  have a1 := h2 most List.mem_cons_self
  have a2 := h2 _ (List.mem_cons_of_mem _ g1)
  unfold cnt
  rcases List.mem_cons.mp h1 with e | e
  · split <;> omega
  · have := g2 m e
    split <;> omega
theorem ok_woft {f : Addr} {fd : FuncData} {k : Nat} (F : Fun K "_law_often" "_law_often" s_scOft f fd) (X : Txt mg) : FnOk P w K mg base CX0 (k + 1) f fd ["_law_want_here", "_law_room", "_law_most"] (spWOft K) := by
  refine F.ok scOft (fun vs H Q E h => ?_) (fun cdv A outer s H vs Q E hr h => ?_)
  · obtain ⟨a, r, most, xs, ys, rfl, _⟩ := h
    rfl
  · obtain ⟨a, r, most, xs, ys, rfl, hX, hY, hl, l20, hx0, hy0, pos, m0, m1, q⟩ := h
    refine ⟨_, (pss_one (ps_ret (pe_callB (cr_min rfl) (by rfl) X.min (by decide +kernel) (pa_cons (pe_op op_cat (pe_lst (pa_cons (pv 2) pa_nil)) (pe_lc (own := [("_law_one", 3), ("_law_have", 4)]) (g := (gTup K 2 (gCons (gName 3) (gCons (gName 4) gNil)))) rfl scOft.nd (RZ.pi_zipA (by rfl) X.zip (pa_cons (pv 0) (pa_cons (pv 1) pa_nil))) (blkOk_by (own := [("_law_one", 3), ("_law_have", 4)]) (N := n_scOft) (sc := defScope s_scOft) (by decide +kernel)) (fun _ _ _ _ _ => (pg_tup rfl (pgs_cons (pg_name (i := 3) scOft.nd rfl (.inl rfl)) (pgs_cons (pg_name (i := 4) scOft.nd rfl (.inl rfl)) pgs_nil)))) (fun _ _ _ _ _ => pts_one (pt_cmpR op_gt (pv 3) pe_int (nomark _))) (fun _ _ _ _ _ => (pe_op op_fdivW (pv 4) (pv 3))))) pa_nil)))), ?_⟩
    refine ⟨_, rfl, by show 1 ≤ sizeLine; decide, fun l5 n5 => ?_⟩
    have s56 := same_upd (o := .lst [V.int most]) n5
    have e6 : upd H l5 (.lst [V.int most]) l5 = some (.lst [V.int most]) := upd_same
    generalize upd H l5 (.lst [V.int most]) = H6 at s56 e6 ⊢
    have hX6 : SqT K H6 a (xs.map V.int) := same_seqT s56 hX
    have hY6 : SqT K H6 r (ys.map V.int) := same_seqT s56 hY
    refine ⟨_, rfl, _, rfl, a, r, _, _, rfl, .inr ⟨hX6, hY6, fun D nD => lc_it (walk_zipT (xs := xs.map V.int) (ys := ys.map V.int) rfl) (fun i H' => Same H6 H' ∧ H' D = some (.lst ((quots (xs.take i) (ys.take i)).map V.int))) ⟨same_upd nD, upd_same⟩ (fun i H' _ p => ⟨same_seqT p.1 hX6, same_seqT p.1 hY6⟩) (fun i v H3 H4 hi p y => ?_) (fun H7 p => ?_)⟩⟩
    · obtain ⟨T1, x1, x2, rfl, nT, rfl, g1, g2⟩ := y
      obtain ⟨p1, p2⟩ := p
      obtain ⟨x, hx, rfl⟩ := get_int g1
      obtain ⟨y, hy, rfl⟩ := get_int g2
      have s3 : Same H3 (upd H3 T1 (.tup [.int x, .int y])) := same_upd nT
      have hi2 : i < xs.length := (List.getElem?_eq_some_iff.mp hx).1
      have bx := hx0 x (List.mem_of_getElem? hx)
      have by' := hy0 y (List.mem_of_getElem? hy)
      have tq : quots (xs.take (i + 1)) (ys.take (i + 1)) = quots (xs.take i) (ys.take i) ++ (if 0 < x then [y / x] else []) := by
        rw [List.take_add_one, List.take_add_one, hx, hy]
        exact quots_snoc _ _ _ _ (by rw [List.length_take, List.length_take]; omega)
      refine ⟨T1, [.int x, .int y], rfl, SqT.of upd_same, rfl, .int x, [.int y], rfl, .int y, [], rfl, rfl, rfl, ?_⟩
      refine ⟨_, rfl, x, 0, rfl, rfl, _, rfl, ite2 (fun e => ?_) (fun e => ?_)⟩
      · have e3 : 0 < x := of_decide_eq_true e
        refine ⟨_, rfl, _, rfl, y, x, rfl, rfl, wide_div (b := 64) e3 (by omega) (by decide) (by decide), ?_⟩
        refine ⟨_, s3 _ _ p2, ?_, same_putA (p1.trans s3) nD, ?_⟩
        · rw [List.length_map]
          exact small1000 (Nat.le_trans (quots_len _ _) (by rw [List.length_take]; omega))
        · rw [upd_same, tq, if_pos e3, List.map_append]
          rfl
      · have e3 : ¬ 0 < x := fun z => e (decide_eq_true z)
        refine ⟨p1.trans s3, ?_⟩
        rw [tq, if_neg e3, List.append_nil]
        exact s3 _ _ p2
    · obtain ⟨v1, v2⟩ := p
      rw [List.length_map, List.length_map, ← hl, Nat.min_self, List.take_length, List.take_of_length_le (by rw [hl]; exact Nat.le_refl _)] at v2
      have lq := quots_len xs ys
      refine ⟨l5, D, _, _, rfl, rfl, v1 _ _ e6, v2, ?_, fun l6 n6 => ?_⟩
      · rw [List.length_map, sizeLine_eq, List.length_singleton]
        omega
      have s8 := same_upd (o := .lst ([V.int most] ++ (quots xs ys).map V.int)) n6
      have e8 : upd H7 l6 (.lst ([V.int most] ++ (quots xs ys).map V.int)) l6 = some (.lst ((most :: quots xs ys).map V.int)) := upd_same
      generalize upd H7 l6 (.lst ([V.int most] ++ (quots xs ys).map V.int)) = H8 at s8 e8 ⊢
      refine ⟨l6, _, rfl, SqL.of e8, by rw [List.length_cons]; omega, fun m m1 m2 => ?_⟩
      obtain rfl := min_cntW (quots_ne xs ys hl pos) m1 m2
      exact q _ ((s56.trans v1).trans s8)
end
end My
set_option maxHeartbeats 1000000
/-! what is placed in what is left may be booked -/
namespace My
open PySem PySem.W PySem.Spec PyProof.Rows L2 GX GxR
theorem leftTs_min {room : List Int} {rs : List Bw} (ts : List Int) {j : Nat} (hj : j < room.length) : (∀ t ∈ ts, (leftTs room rs ts).getD j 0 ≤ valJ room rs j t) ∧ ((leftTs room rs ts).getD j 0 = room.getD j 0 ∨ ∃ t ∈ ts, (leftTs room rs ts).getD j 0 = valJ room rs j t) := by
  have e1 := (fold_col (f := fun t => lessL room (netB room.length rs t)) (fun t => less_len2) hj ts room rfl).2
  obtain ⟨a1, a2, a3⟩ := min_fold (g := fun t => (lessL room (netB room.length rs t)).getD j 0) ts (room.getD j 0)
  have e2 : (leftTs room rs ts).getD j 0 = ts.foldl (fun x t => minI x ((lessL room (netB room.length rs t)).getD j 0)) (room.getD j 0) := e1
  rw [e2]
  refine ⟨fun t ht => ?_, ?_⟩
  · have := a2 t ht
    rw [less_col hj] at this
    exact this
  · rcases a3 with h | ⟨t, ht, h⟩
    · exact .inl h
    · rw [less_col hj] at h
      exact .inr ⟨t, ht, h⟩
theorem leftTs_nn {room : List Int} {rs : List Bw} (ts : List Int) (nn : ∀ n ∈ room, 0 ≤ n) (fit : ∀ t, Fits room rs t) : ∀ n ∈ leftTs room rs ts, 0 ≤ n := fun n hn => by
  obtain ⟨j, hj⟩ := List.mem_iff_getElem?.mp hn
  have h1 : j < (leftTs room rs ts).length := (List.getElem?_eq_some_iff.mp hj).1
  have hr : j < room.length := by rw [leftTs_len] at h1; exact h1
  have e : (leftTs room rs ts).getD j 0 = n := by rw [List.getD_eq_getElem?_getD, hj]; rfl
  rcases (leftTs_min (rs := rs) ts hr).2 with h | ⟨t, ht, h⟩
  · rw [← e, h, List.getD_eq_getElem?_getD, List.getElem?_eq_getElem hr]
    exact nn _ (List.getElem_mem hr)
  · rw [← e, h]
    have := fit t j hr
    unfold valJ
    omega
/-- what is left is no more than at each time -/
theorem site_at_time {h : Hm} {b e t : Int} (nn : NN h.bs) (b1 : b ≤ t) (t2 : t < e) {j : Nat} (hj : j < h.room.length) : (siteL b e h).getD j 0 ≤ valJ h.room h.bs j t := by
  obtain ⟨u, hu, le, mx⟩ := max_le (t := t) (ts := beginsIn b e h) ⟨b, List.mem_cons_self, b1⟩
  have h1 := (leftTs_min (room := h.room) (rs := h.bs) (beginsIn b e h) hj).1 u hu
  have h2 : col j h.bs t ≤ col j h.bs u := col_mono nn fun x hx lv => by
    have lv := of_decide_eq_true lv
    refine decide_eq_true ⟨?_, by omega⟩
    by_cases c : x.b ≤ b
    · have := mx b List.mem_cons_self b1
      omega
    · refine mx x.b (List.mem_cons_of_mem _ (List.mem_filter.mpr ⟨?_, ?_⟩)) lv.1
      · unfold Hm.bs at hx
        obtain ⟨em, hem, rfl⟩ := List.mem_map.mp hx
        exact List.mem_map.mpr ⟨em, hem, rfl⟩
      · unfold withinM
        rw [decide_eq_true (by omega), decide_eq_true (by omega)]
        rfl
  have h1 : (siteL b e h).getD j 0 ≤ valJ h.room h.bs j u := h1
  unfold valJ at h1 ⊢
  omega
theorem cnt_le {most : Int} {xs ys : List Int} : cnt most xs ys ≤ leastL (quots xs ys) := by
  unfold cnt
  split <;> omega
theorem fit_first {gn : List Str} {h : Hm} {b e n most : Int} {want : List Int} (G : BGood gn h.room h.bs) (rn : ∀ m ∈ h.room, 0 ≤ m) (wl : want.length = h.room.length) (wn : ∀ m ∈ want, 0 ≤ m) (wz : ∃ m ∈ want, 0 < m) (lt : b < e) (le : n ≤ cnt most want (siteL b e h)) : IsFirst h.room h.bs (want.map (· * n)) b e none := fun t t1 t2 => by
  have ls : (siteL b e h).length = h.room.length := leftTs_len _
  have sn : ∀ m ∈ siteL b e h, 0 ≤ m := leftTs_nn _ rn G.fit
  have ft : fitN want n (siteL b e h) = true := by
    rw [fit_iffQ wn sn (by rw [wl, ls]) (quots_ne _ _ (by rw [wl, ls]) wz)]
    exact decide_eq_true (Int.le_trans le cnt_le)
  rw [more_fits (by rw [List.length_map, wl])]
  intro j hj
  have hw : j < want.length := by omega
  have hs : j < (siteL b e h).length := by omega
  have e1 : (want.map (· * n)).getD j 0 = want[j] * n := by
    rw [List.getD_eq_getElem?_getD, List.getElem?_map, List.getElem?_eq_getElem hw]
    rfl
  have e2 : (siteL b e h).getD j 0 = (siteL b e h)[j] := by
    rw [List.getD_eq_getElem?_getD, List.getElem?_eq_getElem hs]
    rfl
  have h1 : want[j] * n ≤ (siteL b e h)[j] := by
    unfold fitN at ft
    have hz : (List.zipWith (fun x y : Int => decide (x * n ≤ y)) want (siteL b e h))[j]? = some (decide (want[j] * n ≤ (siteL b e h)[j])) := by
      rw [List.getElem?_zipWith, List.getElem?_eq_getElem hw, List.getElem?_eq_getElem hs]
    exact of_decide_eq_true (List.all_eq_true.mp ft _ (List.mem_of_getElem? hz))
  have h2 := site_at_time (h := h) (b := b) (e := e) (t := t) G.nn t1 t2 hj
  rw [e2] at h2
  rw [e1]
  unfold valJ at h2
  omega
theorem KOk.of {hn gn : List Str} {W : Nat} {M : List Hm} (N : Nms hn gn W) (w8 : W ≤ 8) (g40 : gn.length ≤ 40) (h16 : hn.length ≤ 16) (G : MGood hn gn W M) (rm : ∀ h ∈ M, ∀ n ∈ h.room, n ≤ 1000000000000) (yd : ∀ h ∈ M, PySem.PyData.strOk h.yard = true) : KOk W M := by
  refine ⟨N.w1, w8, ?_, G.good.nd, fun h hh => ⟨G.room h hh, fun n hn => ⟨G.good.nn h hh n hn, rm h hh n hn⟩⟩, fun h hh => ?_, fun h hh em hem => ?_, fun h hh => ⟨(N.ho _ (G.nm h hh)).1, yd h hh⟩, fun h hh b t lt n hn => leftTs_nn _ (G.good.nn h hh) (G.each h hh).fit n hn⟩
  · have this := nodup_len (xs := M.map (·.name)) (ys := hn) G.good.nd fun z hz => by
      obtain ⟨h, hh, rfl⟩ := List.mem_map.mp hz
      exact G.nm h hh
    rw [List.length_map] at this
    omega
  · have this := nodup_len (G.each h hh).nd (ys := gn) fun z hz => by
      obtain ⟨x, hx, rfl⟩ := List.mem_map.mp hz
      exact (G.each h hh).key x hx
    unfold Hm.bs at this
    rw [List.length_map, List.length_map] at this
    omega
  · rw [← G.room h hh]
    exact (G.each h hh).len em.x (List.mem_map.mpr ⟨em, hem, rfl⟩)
/-- a gang that is placed may be booked, and none refuses it -/
theorem booked_due {hn gn : List Str} {W : Nat} {M : List Hm} {z gd hw : Str} {rk mn ln bg most : Int} {want : List Int} {out : List (Str × Int)} (G : MGood hn gn W M) (nb : ¬ Booked M z) (wl : want.length = W) (wn : ∀ m ∈ want, 0 ≤ m) (wz : ∃ m ∈ want, 0 < m) (l1 : 0 < ln)
    (hq : ∀ q ∈ out, ∃ h ∈ M, h.name = q.1 ∧ q.2 ≤ cnt most want (siteL bg (bg + ln) h)) : DueE M (.book z gd hw rk mn ln want out bg) .told (M.map (bookH z bg (bg + ln) want out)) := by
  refine .inr (.inr ⟨nb, fun q hq1 => ?_, none, fun q hq1 => ?_, rfl, rfl⟩)
  · obtain ⟨h, h1, h2, _⟩ := hq q hq1
    exact List.mem_map.mpr ⟨h, h1, h2⟩
  · obtain ⟨h, h1, h2, h3⟩ := hq q hq1
    exact ⟨h, h1, h2, fit_first (G.each h h1) (G.good.nn h h1) (by rw [wl, G.room h h1]) wn wz (by omega) h3⟩
end My
set_option maxHeartbeats 1000000
/-! zip of any two iterators of which each gives its next one by its own rule; zip(list, tuple). -/
namespace ZM
open PySem
section
variable {prog : Program} {w : World}
/-- asked for its next one while P stands, the iterator at `it` gives x, alters itself only, and then R stands -/
def Gives (prog : Program) (w : World) (it : Addr) (x : Value) (P R : Heap → Prop) : Prop :=
  ∀ (A : Around) (Q : Value → Shared → Prop) (E : Value → Shared → Prop) (s : Shared), P s.heap → (∀ h', R h' → Heap.SameBut it s.heap h' → Q x { s with heap := h' }) → wpAny (model prog w) A (Builtin.SmallTypes.nextOf (.ref it)) Q E s
/-- asked for its next one while P stands, it has none -/
def Ends (prog : Program) (w : World) (it : Addr) (P : Heap → Prop) : Prop :=
  ∀ (A : Around) (Q : Value → Shared → Prop) (E : Value → Shared → Prop) (s : Shared), A.handled = none → P s.heap → (∀ h' e, Heap.ExtBut it s.heap h' → (∃ o, h'.get? e = some o ∧ o.cls = .type "StopIteration") → E (.ref e) { s with heap := h' }) →
    wpAny (model prog w) A (Builtin.SmallTypes.nextOf (.ref it)) Q E s
/-- P speaks of nothing at c -/
def Off (P : Heap → Prop) (c : Addr) : Prop := ∀ h h', Heap.ExtBut c h h' → P h → P h'
variable {A : Around} {E : Value → Shared → Prop} {s : Shared} {z TI TO i1 i2 : Addr} {x y a b : Value} {P1 R1 P2 R2 : Heap → Prop}
theorem run_item {Q : Value → Shared → Prop} (zTO : TO ≠ z) (z1 : i1 ≠ z) (z2 : i2 ≠ z) (o1 : TO ≠ i1) (o2 : TO ≠ i2) (i12 : i1 ≠ i2)
    (n1 : Gives prog w i1 x P1 R1) (n2 : Gives prog w i2 y P2 R2) (p1z : Off P1 z) (p2z : Off P2 z) (p2o : Off P2 TO) (p2i : Off P2 i1)
    (hz : IsZip s.heap z TI TO .none) (hTI : IsPair s.heap TI (.ref i1) (.ref i2)) (hTO : IsPair s.heap TO a b) (h1 : P1 s.heap) (h2 : P2 s.heap)
    (hQ : ∀ h' h1 h2, IsZip h' z TI TO (rawInt s.heap.objs.size) → IsPair h' TO x y → R1 h1 → (∀ o, h1.get? i1 = some o → h'.get? i1 = some o) → R2 h2 → (∀ o, h2.get? i2 = some o → h'.get? i2 = some o) → IsPair h' s.heap.objs.size x y →
      (∀ c o, c ≠ z → c ≠ TO → c ≠ i1 → c ≠ i2 → s.heap.get? c = some o → h'.get? c = some o) → Q (.ref s.heap.objs.size) { s with heap := h' }) :
    wpAny (model prog w) A (Builtin.«zip.__next__» ⟨[.ref z], []⟩) (fun fin s' => ∃ v, fin = .done (.ret v) ∧ Q v s') E s := by
  show wpAny _ _ (field (.ref z) 2 >>= _) _ _ _
  refine wpAny_bind (wpAny_field hz rfl (x := .bool false) rfl ?_)
  show wpAny _ _ (field (.ref z) 3 >>= _) _ _ _
  refine wpAny_bind (wpAny_field hz rfl (x := .ref TI) rfl (wpAny_bind (wpAny_seqItems hTI rfl ?_)))
  show wpAny _ _ (Builtin.SmallTypes.ownedTupleIsFree (.ref z) >>= _) _ _ _
  refine wpAny_bind ?_
  unfold Builtin.SmallTypes.ownedTupleIsFree
  refine wpAny_bind (wpAny_field hz rfl (x := .none) rfl (wpAny_pure ?_))
  simp only [if_true]
  refine wpAny_bind (wpAny_rule (wpAny_bind (wpAny_field hz rfl (x := .ref TO) rfl (wpAny_bind (wpAny_setField_rec hz (by simp) fun ha za sa => wpAny_bind ?_)))))
  replace za : IsZip ha z TI TO .ellipsis := za
  have xa := sa.extBut
  simp only [List.zipIdx_cons, List.zipIdx_nil, List.forIn_cons, List.forIn_nil]
  refine wpAny_bind (wpAny_bind (wpAny_onRaise ?_))
  show wpAny _ _ (Builtin.SmallTypes.nextOf (.ref i1) >>= _) _ _ _
  refine wpAny_bind (n1 _ _ _ _ (p1z _ _ xa h1) fun hb rb sb => wpAny_pure ?_)
  have xb := sb.extBut
  have tb : IsPair hb TO a b := xb _ _ o1 (xa _ _ zTO hTO)
  refine wpAny_bind (wpAny_seqItems tb rfl (wpAny_bind (wpAny_updateSeq_pair tb fun hc tc sc => wpAny_bind (wpAny_letGo (wpAny_pure ?_)))))
  replace tc : IsPair hc TO x b := tc
  have xc := sc.extBut
  refine wpAny_bind (wpAny_bind (wpAny_onRaise ?_))
  show wpAny _ _ (Builtin.SmallTypes.nextOf (.ref i2) >>= _) _ _ _
  refine wpAny_bind (n2 _ _ _ _ (p2o _ _ xc (p2i _ _ xb (p2z _ _ xa h2))) fun hd rd sd => wpAny_pure ?_)
  have xd := sd.extBut
  have td : IsPair hd TO x b := xd _ _ o2 tc
  refine wpAny_bind (wpAny_seqItems td rfl (wpAny_bind (wpAny_updateSeq_pair td fun he te se => wpAny_bind (wpAny_letGo (wpAny_pure (wpAny_pure ?_))))))
  replace te : IsPair he TO x y := te
  have xe := se.extBut
  have size : he.objs.size = s.heap.objs.size := by rw [se.1, sd.1, sc.1, sb.1, sa.1]
  have ze : IsZip he z TI TO .ellipsis := xe _ _ zTO.symm (xd _ _ z2.symm (xc _ _ zTO.symm (xb _ _ z1.symm za)))
  have zlt : z < he.objs.size := Heap.lt_size ze
  refine wpAny_bind (wpAny_seqItems te rfl (wpAny_bind (wpAny_newTuple ?_)))
  show wpAny _ _ (Builtin.SmallTypes.ownedTupleHandOut (.ref z) (.ref he.objs.size) >>= _) _ _ _
  refine wpAny_bind ?_
  unfold Builtin.SmallTypes.ownedTupleHandOut
  have zf : IsZip (he.push { cls := .type "tuple", data := .seq #[x, y] }) z TI TO .ellipsis := Heap.get?_push_of_some _ ze
  refine wpAny_bind (wpAny_setField_rec zf (by simp) fun hg zg sg => ?_)
  replace zg : IsZip hg z TI TO (rawInt he.objs.size) := zg
  refine wpAny_setField_rec zg (by simp) fun hl zl sl => ?_
  replace zl : IsZip hl z TI TO (rawInt he.objs.size) := zl
  have up : ∀ c o, c ≠ z → (he.push { cls := .type "tuple", data := .seq #[x, y] }).get? c = some o → hl.get? c = some o := fun c o n e => sl.extBut _ _ n (sg.extBut _ _ n e)
  have pair : IsPair hl he.objs.size x y := up _ _ (Nat.ne_of_gt zlt) (Heap.get?_push_size _ rfl)
  have up2 : ∀ c o, c ≠ z → he.get? c = some o → hl.get? c = some o := fun c o n e => up c o n (Heap.get?_push_of_some _ e)
  refine wpAny_pure ⟨_, rfl, ?_⟩
  show Q (.ref he.objs.size) _
  rw [size] at zl pair ⊢
  exact hQ hl hb hd zl (up2 _ _ zTO te) rb (fun o e => up2 _ o z1 (xe _ _ o1.symm (xd _ _ i12 (xc _ _ o1.symm e)))) rd (fun o e => up2 _ o z2 (xe _ _ o2.symm e)) pair
    fun c o c1 c2 c3 c4 e => up2 c o c1 (xe _ _ c2 (xd _ _ c4 (xc _ _ c2 (xb _ _ c3 (xa _ _ c1 e)))))
theorem run_end {Q : Fin → Shared → Prop} (hh : A.handled = none) (z1 : i1 ≠ z) (n1 : Ends prog w i1 P1) (p1z : Off P1 z)
    (hz : IsZip s.heap z TI TO .none) (hTI : IsPair s.heap TI (.ref i1) (.ref i2)) (h1 : P1 s.heap)
    (hE : ∀ h' e, (∀ c o, c ≠ z → c ≠ i1 → s.heap.get? c = some o → h'.get? c = some o) → (∃ o, h'.get? e = some o ∧ o.cls = .type "StopIteration") → E (.ref e) { s with heap := h' }) :
    wpAny (model prog w) A (Builtin.«zip.__next__» ⟨[.ref z], []⟩) Q E s := by
  show wpAny _ _ (field (.ref z) 2 >>= _) _ _ _
  refine wpAny_bind (wpAny_field hz rfl (x := .bool false) rfl ?_)
  show wpAny _ _ (field (.ref z) 3 >>= _) _ _ _
  refine wpAny_bind (wpAny_field hz rfl (x := .ref TI) rfl (wpAny_bind (wpAny_seqItems hTI rfl ?_)))
  show wpAny _ _ (Builtin.SmallTypes.ownedTupleIsFree (.ref z) >>= _) _ _ _
  refine wpAny_bind ?_
  unfold Builtin.SmallTypes.ownedTupleIsFree
  refine wpAny_bind (wpAny_field hz rfl (x := .none) rfl (wpAny_pure ?_))
  simp only [if_true]
  refine wpAny_bind (wpAny_rule (wpAny_bind (wpAny_field hz rfl (x := .ref TO) rfl (wpAny_bind (wpAny_setField_rec hz (by simp) fun ha za sa => wpAny_bind ?_)))))
  replace za : IsZip ha z TI TO .ellipsis := za
  have xa := sa.extBut
  simp only [List.zipIdx_cons, List.zipIdx_nil, List.forIn_cons, List.forIn_nil]
  refine wpAny_bind (wpAny_bind (wpAny_onRaise ?_))
  show wpAny _ _ (Builtin.SmallTypes.nextOf (.ref i1) >>= _) _ _ _
  refine wpAny_bind (n1 _ _ _ _ hh (p1z _ _ xa h1) fun hb e xb he => ?_)
  obtain ⟨oe, hoe, hce⟩ := he
  have zb : IsZip hb z TI TO .ellipsis := xb _ _ z1.symm za
  have ez : e ≠ z := fun q => by
    subst q
    rw [zb] at hoe
    cases hoe
    simp at hce
  exact wpAny_setField_rec zb (by simp) fun hc _ sc => hE hc e (fun c o c1 c2 q => sc.extBut _ _ c1 (xb _ _ c2 (xa _ _ c1 q))) ⟨oe, sc.extBut _ _ ez hoe, hce⟩
theorem next_item {Q : Option Value → Shared → Prop} (zTO : TO ≠ z) (z1 : i1 ≠ z) (z2 : i2 ≠ z) (o1 : TO ≠ i1) (o2 : TO ≠ i2) (i12 : i1 ≠ i2)
    (n1 : Gives prog w i1 x P1 R1) (n2 : Gives prog w i2 y P2 R2) (p1z : Off P1 z) (p2z : Off P2 z) (p2o : Off P2 TO) (p2i : Off P2 i1)
    (hz : IsZip s.heap z TI TO .none) (hTI : IsPair s.heap TI (.ref i1) (.ref i2)) (hTO : IsPair s.heap TO a b) (h1 : P1 s.heap) (h2 : P2 s.heap)
    (hQ : ∀ h' h1 h2, IsZip h' z TI TO (rawInt s.heap.objs.size) → IsPair h' TO x y → R1 h1 → (∀ o, h1.get? i1 = some o → h'.get? i1 = some o) → R2 h2 → (∀ o, h2.get? i2 = some o → h'.get? i2 = some o) → IsPair h' s.heap.objs.size x y →
      (∀ c o, c ≠ z → c ≠ TO → c ≠ i1 → c ≠ i2 → s.heap.get? c = some o → h'.get? c = some o) → Q (some (.ref s.heap.objs.size)) { s with heap := h' }) :
    wpAny (model prog w) A (pyNext (.ref z)) Q E s := by
  have hT : s.TypeIs (.ref z) "zip" := ⟨_, hz, rfl⟩
  unfold pyNext
  exact wpAny_bind (wpAny_attempt (wpAny_callSpecial?_slot (name := Str.ofString "__next__") hT F.slot_zip_next (wpAny_call_entry F.slot_zip_next hT F.entry_zip_next
    (run_item zTO z1 z2 o1 o2 i12 n1 n2 p1z p2z p2o p2i hz hTI hTO h1 h2 fun h' g1 g2 q1 q2 q3 q4 q5 q6 q7 q8 => wpAny_pure (hQ h' g1 g2 q1 q2 q3 q4 q5 q6 q7 q8)) (F.args_zip_next_1 _))))
theorem next_end {Q : Option Value → Shared → Prop} (hh : A.handled = none) (z1 : i1 ≠ z) (n1 : Ends prog w i1 P1) (p1z : Off P1 z)
    (hz : IsZip s.heap z TI TO .none) (hTI : IsPair s.heap TI (.ref i1) (.ref i2)) (h1 : P1 s.heap)
    (hQ : ∀ h', (∀ c o, c ≠ z → c ≠ i1 → s.heap.get? c = some o → h'.get? c = some o) → Q none { s with heap := h' }) : wpAny (model prog w) A (pyNext (.ref z)) Q E s := by
  have hT : s.TypeIs (.ref z) "zip" := ⟨_, hz, rfl⟩
  unfold pyNext
  refine wpAny_bind (wpAny_attempt (wpAny_callSpecial?_slot (name := Str.ofString "__next__") hT F.slot_zip_next (wpAny_call_entry F.slot_zip_next hT F.entry_zip_next
    (run_end hh z1 n1 p1z hz hTI h1 fun h' e hk he => ?_) (F.args_zip_next_1 _))))
  obtain ⟨o, ho, hc⟩ := he
  exact wpAny_bind (wpAny_isInstance (T := "StopIteration") (b := true) ⟨o, ho, hc⟩ isSubtype_stop (wpAny_pure (hQ _ hk)))
end
/-! ### zip(list, tuple): the call -/
/-- an iterator's first stand -/
abbrev itr (T : String) (l : Addr) : Obj := { cls := .type T, data := .fields #[.ref l, .int 0 0] }
abbrev tup2 (a b : Value) : Obj := { cls := .type "tuple", data := .seq #[a, b] }
abbrev two (h : Heap) (p q : Obj) : Heap := (h.push p).push q
abbrev three (h : Heap) (p q : Obj) : Heap := (two h p q).push (tup2 (.ref h.objs.size) (.ref (h.push p).objs.size))
abbrev four (h : Heap) (p q : Obj) : Heap := (three h p q).push (tup2 .none .none)
abbrev five (h : Heap) (p q : Obj) : Heap := (four h p q).push { cls := .type "zip", data := .fields #[.none, .bool false, .bool false, .ref (two h p q).objs.size, .ref (three h p q).objs.size] }
theorem meets_new (l1 l2 : Addr) (xs ys : Array Value) : Meets (Builtin.«zip.__new__» ⟨[.type "zip", .ref l1, .ref l2], []⟩) (fun _ R s => s.heap.IsList l1 xs ∧ s.heap.IsTuple l2 ys ∧
    R (.ok (.ret (.ref (four s.heap (itr "list_iterator" l1) (itr "tuple_iterator" l2)).objs.size))) { s with heap := five s.heap (itr "list_iterator" l1) (itr "tuple_iterator" l2) }) :=
  .of_wp fun prog w A R s h => by
    obtain ⟨hp, g, d, tk, os⟩ := s
    obtain ⟨q1, q2, h⟩ := h
    have hsub := sub_zip
    have hL1 : Heap.IsList (Shared.heap ⟨hp, g, d, tk, os⟩) l1 xs := q1
    have hL2 : Heap.IsTuple (Shared.heap ⟨hp.push (itr "list_iterator" l1), g, d, tk, os⟩) l2 ys := Heap.IsTuple.push q2 _
    wp_walk using wpAny_pyIter_list hL1, wpAny_pyIter_tuple hL2
    exact ⟨_, rfl, h⟩
section
variable {prog : Program} {w : World} {A : Around} {E : Value → Shared → Prop} {s : Shared}
theorem call_mixed {l1 l2 : Addr} {xs ys : Array Value} {Q : Value → Shared → Prop} (q1 : s.heap.IsList l1 xs) (q2 : s.heap.IsTuple l2 ys)
    (h : ∀ h' n, n = s.heap.objs.size → IsZip h' (n + 4) (n + 2) (n + 3) .none → IsPair h' (n + 2) (.ref n) (.ref (n + 1)) → IsPair h' (n + 3) .none .none → h'.IsListIter n l1 0 → h'.IsTupleIter (n + 1) l2 0 →
      (∀ c o, s.heap.get? c = some o → h'.get? c = some o) → Q (.ref (n + 4)) { s with heap := h' }) : wpAny (model prog w) A (call (.type "zip") [.ref l1, .ref l2]) Q E s := by
  refine callType_new F.called_zip (by decide) (F.typeCall_zip_2 _ _) (F.newCall_zip_2 _ _) (fun obj => F.args_object_init_3 obj _ _) F.entry_zip_new (meets_new l1 l2 xs ys) ⟨q1, q2, ?_⟩
  generalize hp : itr "list_iterator" l1 = p
  generalize hq : itr "tuple_iterator" l2 = q
  have n1 : (s.heap.push p).objs.size = s.heap.objs.size + 1 := Heap.size_push ..
  have n2 : (two s.heap p q).objs.size = s.heap.objs.size + 2 := by rw [Heap.size_push, n1]
  have n3 : (three s.heap p q).objs.size = s.heap.objs.size + 3 := by rw [Heap.size_push, n2]
  have n4 : (four s.heap p q).objs.size = s.heap.objs.size + 4 := by rw [Heap.size_push, n3]
  have kp : ∀ {h : Heap} {o r : Obj} {c : Addr}, h.get? c = some o → (h.push r).get? c = some o := fun e => Heap.get?_push_of_some _ e
  have f1 : p.isFreed = false := by rw [← hp]; rfl
  have f2 : q.isFreed = false := by rw [← hq]; rfl
  have a1 : (five s.heap p q).get? s.heap.objs.size = some p := kp (kp (kp (kp (Heap.get?_push_size _ f1))))
  have a2 : (five s.heap p q).get? (s.heap.push p).objs.size = some q := kp (kp (kp (Heap.get?_push_size _ f2)))
  have a3 : (five s.heap p q).get? (two s.heap p q).objs.size = some _ := kp (kp (Heap.get?_push_size _ rfl))
  have a4 : (five s.heap p q).get? (three s.heap p q).objs.size = some _ := kp (Heap.get?_push_size _ rfl)
  have a5 : (five s.heap p q).get? (four s.heap p q).objs.size = some _ := Heap.get?_push_size _ rfl
  show _ ∧ _
  rw [n2, n3, n4] at a5
  rw [n1, n2] at a3
  rw [n3] at a4
  rw [n1] at a2
  rw [n4]
  subst hp hq
  exact ⟨⟨_, a5, rfl⟩, h _ _ rfl a5 a3 a4 ⟨_, a1, rfl, rfl⟩ ⟨_, a2, rfl, rfl⟩ fun c o e => kp (kp (kp (kp (kp e))))⟩
end
section
variable {prog : Program} {w : World}
theorem gives_list {it l : Addr} {k : Nat} {xs : Array Value} {x : Value} (hx : xs[k]? = some x) : Gives prog w it x (fun h => h.IsListIter it l k ∧ h.IsList l xs) (fun h => h.IsListIter it l (k + 1)) :=
  fun _ _ _ _ p h => wpAny_nextOf_list_item p.1 p.2 hx h
theorem gives_tup {it l : Addr} {k : Nat} {xs : Array Value} {x : Value} (hx : xs[k]? = some x) : Gives prog w it x (fun h => h.IsTupleIter it l k ∧ h.IsTuple l xs) (fun h => h.IsTupleIter it l (k + 1)) :=
  fun _ _ _ _ p h => RZ.nextOf_tuple_item p.1 p.2 hx h
theorem ends_list {it l : Addr} {k : Nat} {xs : Array Value} (hx : xs[k]? = none) : Ends prog w it (fun h => h.IsListIter it l k ∧ h.IsList l xs) :=
  fun _ _ _ _ hh p h => wpAny_nextOf_list_end hh p.1 p.2 hx h
theorem off_list {it l c : Addr} {k : Nat} {xs : Array Value} (h1 : it ≠ c) (h2 : l ≠ c) : Off (fun h => h.IsListIter it l k ∧ h.IsList l xs) c := fun _ _ e p => ⟨p.1.extBut e h1, p.2.extBut e h2⟩
theorem off_tup {it l c : Addr} {k : Nat} {xs : Array Value} (h1 : it ≠ c) (h2 : l ≠ c) : Off (fun h => h.IsTupleIter it l k ∧ h.IsTuple l xs) c := fun _ _ e p => ⟨p.1.extBut e h1, p.2.extBut e h2⟩
end
end ZM
namespace ZM
open PySem PySem.Spec PyProof.Rows L2
/-- the list at a and the tuple at b as they stand at each turn, the items in new pairs; stopped by the list -/
def ItM (K : PySem.W.Frag) (a b : Addr) : It :=
  ⟨fun i H => ∃ (xs ys : List V) (x y : V), SqL K H a xs ∧ SqT K H b ys ∧ xs[i]? = some x ∧ ys[i]? = some y,
    fun i H v H' => ∃ T x y, v = .ref T ∧ H T = none ∧ H' = upd H T (.tup [x, y]) ∧ (∀ xs, SqL K H a xs → xs[i]? = some x) ∧ ∀ ys, SqT K H b ys → ys[i]? = some y,
    fun i H => ∃ xs : List V, SqL K H a xs ∧ xs.length ≤ i⟩
theorem walk_mixed {K : PySem.W.Frag} {a b : Addr} {xs ys : List V} (hl : xs.length = ys.length) : Walk (ItM K a b) xs.length (fun H => SqL K H a xs ∧ SqT K H b ys) (YPair (fun i => xs[i]?) (fun i => ys[i]?)) :=
  ⟨fun i _ hi q => ⟨xs, ys, xs[i], ys[i]'(by omega), q.1, q.2, List.getElem?_eq_getElem hi, List.getElem?_eq_getElem (by omega)⟩, fun _ q => ⟨xs, q.1, Nat.le_refl _⟩, fun _ _ _ _ _ q y => by
    obtain ⟨T, x, y, e, n, e2, f1, f2⟩ := y
    exact ⟨T, x, y, e, n, e2, f1 _ q.1, f2 _ q.2⟩⟩
theorem turn_mixed {P : Program} {w : World} {K : PySem.W.Frag} {elts : List Expr} {kk : Nat} {tpos : Pos} {a b z TI TO i1 i2 : Addr} (D : ZipApart z TI TO i1 i2 a b) :
    Turn P w K (.Tuple elts kk tpos) (ItM K a b) [z, TI, TO, i1, i2] z (fun i h => IsZip h z TI TO .none ∧ IsPair h TI (.ref i1) (.ref i2) ∧ (∃ x y, IsPair h TO x y) ∧ h.IsListIter i1 a i ∧ h.IsTupleIter i2 b i) where
  mem := List.mem_cons_self
  obj := fun i h st c hc => by
    obtain ⟨hz, hTI, ⟨x, y, hTO⟩, ⟨o1, e1, _, d1⟩, ⟨o2, e2, _, d2⟩⟩ := st
    simp only [List.mem_cons, List.not_mem_nil, or_false] at hc
    rcases hc with rfl | rfl | rfl | rfl | rfl
    · exact ⟨_, hz, fun v q => nomatch q⟩
    · exact ⟨_, hTI, fun v q => nomatch q⟩
    · exact ⟨_, hTO, fun v q => nomatch q⟩
    · exact ⟨o1, e1, fun v q => by rw [d1] at q; cases q⟩
    · exact ⟨o2, e2, fun v q => by rw [d2] at q; cases q⟩
  keep := fun i h h' st k => by
    obtain ⟨hz, hTI, ⟨x, y, hTO⟩, h1, h2⟩ := st
    exact ⟨k z (by simp) _ hz, k TI (by simp) _ hTI, ⟨x, y, k TO (by simp) _ hTO⟩, h1.at fun o q => k i1 (by simp) o q, h2.at fun o q => k i2 (by simp) o q⟩
  item := by
    intro X hP hw hK hc i pins s σ H E I hf st hg
    subst hP hw hK
    obtain ⟨hz, hTI, ⟨x0, y0, hTO⟩, h1, h2⟩ := st
    obtain ⟨xs, ys, x, y, hqx, hqy, hx, hy⟩ := hg
    obtain ⟨us, ru, p1, _⟩ := I.list hqx
    obtain ⟨ws, rw', p2, _⟩ := I.tuple hqy
    obtain ⟨u, hu, r1⟩ := ru.get hx
    obtain ⟨u2, hu2, r2⟩ := rw'.get hy
    have zlt : z < s.heap.objs.size := Heap.lt_size hz
    have below : ∀ c ∈ [z, TI, TO, i1, i2], c < s.heap.objs.size := fun c hc => by
      simp only [List.mem_cons, List.not_mem_nil, or_false] at hc
      rcases hc with rfl | rfl | rfl | rfl | rfl
      · exact zlt
      · exact Heap.lt_size hTI
      · exact Heap.lt_size hTO
      · obtain ⟨_, e, _⟩ := h1; exact Heap.lt_size e
      · obtain ⟨_, e, _⟩ := h2; exact Heap.lt_size e
    refine next_item D.TOz D.i1z D.i2z D.TOi1 D.TOi2 D.i12 (gives_list (xs := us.toArray) (x := u) (by simpa using hu)) (gives_tup (xs := ws.toArray) (x := u2) (by simpa using hu2)) (off_list D.i1z D.l1z) (off_tup D.i2z D.l2z) (off_tup D.TOi2.symm D.l2TO) (off_tup D.i12.symm D.l2i1)
      hz hTI hTO ⟨h1, p1.isList⟩ ⟨h2, p2⟩ fun h' g1 g2 z' TO' q1 k1 q2 k2 hT hk => ⟨_, rfl, wpAny_letOwnedTupleGo_zip (s := { s with heap := h' }) z' fun h'' z'' sb => ?_⟩
    have up : ∀ c o, c ≠ z → h'.get? c = some o → h''.get? c = some o := fun c o n e => (sb.2 c n).trans e
    have new : ObjOk X.prog X.w (upd H s.heap.objs.size (.tup [x, y])) h'' s.heap.objs.size (.tup [x, y]) :=
      ⟨by show 2 ≤ sizeLine; decide, [u, u2], .cons r1 (.cons r2 .nil), ⟨_, up _ _ (Nat.ne_of_gt zlt) hT, rfl, _, rfl⟩⟩
    have I1 : Inv X pins σ (upd H s.heap.objs.size (.tup [x, y])) { s with heap := h'' } :=
      I.turnedNew (t' := s.toks) (ch := [z, TI, TO, i1, i2]) (fun c o hb q => by
        simp only [List.mem_cons, List.not_mem_nil, or_false, not_or] at hb
        exact up c o hb.1 (hk c o hb.1 hb.2.2.1 hb.2.2.2.1 hb.2.2.2.2 q)) hf (Nat.le_refl _) new
    refine ⟨.ref s.heap.objs.size, _, I1, rfl, ⟨_, x, y, rfl, I.hok.fresh (Nat.le_refl _), rfl, fun l hl => by rw [I.list_inj hl hqx]; exact hx, fun l hl => by rw [I.tuple_inj hl hqy]; exact hy⟩,
      ⟨z'', up _ _ D.TIz (hk _ _ D.TIz D.TITO D.TIi1 D.TIi2 hTI), ⟨u, u2, up _ _ D.TOz TO'⟩, q1.at fun o e => up _ o D.i1z (k1 o e), q2.at fun o e => up _ o D.i2z (k2 o e)⟩, fun c hcm => ?_⟩
    rw [upd_ne (Nat.ne_of_lt (below c hcm))]
    exact (hf c hcm).1
  done := by
    intro X hP hw hK hc i pins s σ H E I hf st hg
    subst hP hw hK
    obtain ⟨hz, hTI, hTO, h1, h2⟩ := st
    obtain ⟨xs, hqx, hend⟩ := hg
    obtain ⟨us, ru, p1, _⟩ := I.list hqx
    have l1 := ru.length
    exact next_end (I.ok.hd hc) D.i1z (ends_list (xs := us.toArray) (by simp; omega)) (off_list D.i1z D.l1z) hz hTI ⟨h1, p1.isList⟩ fun h' hk => ⟨rfl, I.turnedL (t' := s.toks) (ch := [z, TI, TO, i1, i2]) (fun c o hb q => by
      simp only [List.mem_cons, List.not_mem_nil, or_false, not_or] at hb
      exact hk c o hb.1 hb.2.2.2.1 q) hf⟩
  self := fun A i s Q E st h => wpAny_pyIter_zip st.1 h
def iMix (K : PySem.W.Frag) (ta : TA) : TI := fun σ H R => ta σ H fun vs H1 => ∃ a b xs ys, vs = [.ref a, .ref b] ∧ SqL K H1 a xs ∧ SqT K H1 b ys ∧ R (ItM K a b) H1
theorem pi_mix {X : Cx} {e e2 : Expr} {ta : TA} {p pos tpos : Pos} {elts : List Expr} {kk : Nat} (hg : Gl X "zip") (hm : X.mg "zip" = none) (ha : PA X [e, e2] ta)
    (hs : starEach [e, e2] X.env = (false, eval e X.env) :: starEach [e2] X.env := by rfl) (hpl : (backTo pos (starEach [e2] X.env)).any (·.1) = false := by rfl) :
    PI X (.Tuple elts kk tpos) (.Call (.Name "zip" p) [e, e2] [] pos) (iMix X.K ta) := by
  refine ⟨fun pins s σ H R I h => ?_⟩
  refine Call_ (ld_blt I hg hm PyProof.Rows.boot_zip (PyProof.Rows.callWith_type1 (thn (ha.run pos pins s σ H _ I h) fun us s1 ⟨vs, H1, I1, r1, q1⟩ => ?_) hs hpl))
  obtain ⟨a, b, xs, ys, ex, hqx, hqy, q⟩ := q1
  subst ex
  cases r1 with
  | cons r rr =>
    cases rr with
    | cons r' rr =>
      cases rr
      cases r
      cases r'
      obtain ⟨us, ru, p1, _⟩ := I1.list hqx
      obtain ⟨ws, rw', p2, _⟩ := I1.tuple hqy
      obtain ⟨o2, ho2, _⟩ := id p2
      refine call_mixed p1.isList (show s1.heap.IsTuple b ws.toArray from p2) fun h' n en hz hTI hTO h1 h2 hk => wpAny_pyIter_zip hz ?_
      have I2 : Inv X pins σ H1 { s1 with heap := h' } := I1.kept (t' := s1.toks) hk
      subst en
      refine ⟨s1.heap.objs.size + 4, [s1.heap.objs.size + 4, s1.heap.objs.size + 2, s1.heap.objs.size + 3, s1.heap.objs.size, s1.heap.objs.size + 1], _, _, H1, rfl, I2, turn_mixed (PySem.W.ktu_apart s1.heap.objs.size a b p1.lt (Heap.lt_size ho2)), ⟨hz, hTI, ⟨_, _, hTO⟩, h1, h2⟩, fun c hc => ?_, q⟩
      have le : s1.heap.objs.size ≤ c := by
        simp only [List.mem_cons, List.not_mem_nil, or_false] at hc
        rcases hc with h | h | h | h | h <;> rw [h]
        · exact Nat.le_add_right _ _
        · exact Nat.le_add_right _ _
        · exact Nat.le_add_right _ _
        · exact Nat.le_refl _
        · exact Nat.le_add_right _ _
      exact I1.fpOk le (I1.hok.fresh le)
end ZM
set_option maxHeartbeats 4000000
namespace My
open PySem PySem.Spec PyProof.Rows L2 GX GxR
abbrev s_scLod : Stmt := topS 38
abbrev n_scLod : List Str := ["_law_world", "_law_name_here", "_law_time", "_law_total", "_law_house_here", "_law_begin", "_law_end", "_law_amount_here", "_law_one", "_law_other"]
theorem scLod : FnScope n_scLod ["_law_world", "_law_name_here", "_law_time"] (defScope s_scLod) := ⟨rfl, rfl, rfl, by decide +kernel, rfl, by decide +kernel, by decide +kernel⟩
abbrev s_scLef : Stmt := topS 39
abbrev n_scLef : List Str := ["_law_world", "_law_row", "_law_begin", "_law_end", "_law_times", "_law_loads", "_law_time", "_law_one", "_law_k", "_law_load_here"]
theorem scLef : FnScope n_scLef ["_law_world", "_law_row", "_law_begin", "_law_end"] (defScope s_scLef) := ⟨rfl, rfl, rfl, by decide +kernel, rfl, by decide +kernel, by decide +kernel⟩
/-- the law's world -/
def wdkv (W : Nat) (lh le lk : Addr) : List (Key × V) := [(Sum.inr "wares", .int (W : Int)), (Sum.inr "houses", .ref lh), (Sum.inr "entries", .ref le), (Sum.inr "kinds", .ref lk)]
/-- an entry of the law: of a house, as a row -/
def EntW (H : Hp) (v : V) (x : Bw) : Prop := ∃ t am : Addr, v = .ref t ∧ H t = some (.tup [.str x.key, .int x.b, .int x.e, .ref am]) ∧ H am = some (.tup (x.am.map V.int))
theorem EntW.same {H H' : Hp} {v : V} {x : Bw} (s : Same H H') (h : EntW H v x) : EntW H' v x := by
  obtain ⟨t, am, h0, h1, h2⟩ := h
  exact ⟨t, am, h0, s _ _ h1, s _ _ h2⟩
def ofH (nm : Str) (E : List Bw) : List Bw := E.filter fun x => decide (x.key = nm)
structure WVw (H : Hp) (D : Addr) (W : Nat) (lh le lk : Addr) (us : List V) (E : List Bw) : Prop where
  obj : H D = some (.dK (wdkv W lh le lk))
  en : H le = some (.lst us)
  each : Paired (EntW H) us E
theorem WVw.same {H H' : Hp} {D : Addr} {W : Nat} {lh le lk : Addr} {us : List V} {E : List Bw} (s : Same H H') (h : WVw H D W lh le lk us E) : WVw H' D W lh le lk us E := ⟨s _ _ h.obj, s _ _ h.en, h.each.mono fun _ _ => EntW.same s⟩
def spWLod : Sp := fun vs H Q _ => ∃ (D lh le lk : Addr) (us : List V) (E : List Bw) (W : Nat) (nm : Str) (t : Int), vs = [.ref D, .str nm, .int t] ∧ WVw H D W lh le lk us E ∧ W ≤ 8 ∧ (∀ x ∈ E, x.am.length = W) ∧ E.length ≤ 60 ∧
  ∀ (l : Addr) (H' : Hp), Same H H' → H l = none → H' l = some (.lst ((netB W (ofH nm E) t).map V.int)) → Q (.ref l) H'
section
variable {P : Program} {w : World} {K : PySem.W.Frag} {mg : Str → Option Value} {base : Heap}
theorem ofH_snoc {nm : Str} {E : List Bw} {x : Bw} : ofH nm (E ++ [x]) = ofH nm E ++ (if x.key = nm then [x] else []) := by
  unfold ofH
  rw [List.filter_append]
  congr 1
  by_cases c : x.key = nm
  · rw [if_pos c]; exact List.filter_cons_of_pos (decide_eq_true c)
  · rw [if_neg c]; exact List.filter_cons_of_neg (by rw [decide_eq_true_eq]; exact c)
theorem ok_wlod {f : Addr} {fd : FuncData} {k : Nat} (F : Fun K "_law_load" "_law_load" s_scLod f fd) (X : Txt mg) : FnOk P w K mg base CX0 (k + 1) f fd ["_law_world", "_law_name_here", "_law_time"] spWLod := by
  refine F.ok scLod (fun vs H Q E h => ?_) (fun cdv A outer s H vs Q E hr h => ?_)
  · obtain ⟨D, lh, le, lk, us, E, W, nm, t, rfl, _⟩ := h
    rfl
  · obtain ⟨D, lh, le, lk, us, E, W, nm, t, rfl, wv, w8, am, few, q⟩ := h
    refine ⟨_, (pss_cons (ps_set (i := 3) scLod.nd rfl (.inl rfl) (pe_op op_rep (pe_lst (pa_cons pe_int pa_nil)) (pe_dget (hu_of hr) (pv 0) pe_str (fun _ _ => rfl))))
(C8.pss_cut (ps_for PassesOwn.never rfl (pi_list (pe_dget (hu_of hr) (pv 0) pe_str (fun _ _ => rfl))) (pg_tup rfl (pgs_cons (pg_name (i := 4) scLod.nd rfl (.inl rfl)) (pgs_cons (pg_name (i := 5) scLod.nd rfl (.inl rfl)) (pgs_cons (pg_name (i := 6) scLod.nd rfl (.inl rfl)) (pgs_cons (pg_name (i := 7) scLod.nd rfl (.inl rfl)) pgs_nil)))))
  (pss_one (ps_if (PW.pt (pw_and (pt_cmpR op_eq (pv 4) (pv 1) (nomark _)) (pw_and1 (pt_chain op_le op_lt (pv 5) (pv 2) (pv 6)))))
    (pss_one (ps_setLc (i := 3) (own := [("_law_one", 8), ("_law_other", 9)]) (g := (gTup K 2 (gCons (gName 8) (gCons (gName 9) gNil)))) (tt := tYes) rfl scLod.nd rfl rfl (sw_true rfl rfl rfl (by decide +kernel)) (ZM.pi_mix (by rfl) X.zip (pa_cons (pv 3) (pa_cons (pv 7) pa_nil))) (blkOk_by (own := [("_law_one", 8), ("_law_other", 9)]) (N := n_scLod) (sc := defScope s_scLod) (by decide +kernel)) (fun _ _ _ _ _ => (pg_tup rfl (pgs_cons (pg_name (i := 8) scLod.nd rfl (.inl rfl)) (pgs_cons (pg_name (i := 9) scLod.nd rfl (.inl rfl)) pgs_nil)))) (fun _ _ _ _ _ => pts_nil) (fun _ _ _ _ _ => (pe_op op_add (pv 8) (pv 9)))))
    pss_nil)))
(pss_one (ps_ret (pv 3))))), ?_⟩
    refine ⟨by show 1 ≤ sizeLine; decide, fun l0 n0 => ?_⟩
    have s0 := same_upd (o := .lst [V.int 0]) n0
    have e0 : upd H l0 (.lst [V.int 0]) l0 = some (.lst [V.int 0]) := upd_same
    generalize upd H l0 (.lst [V.int 0]) = H0 at s0 e0 ⊢
    have wv0 := wv.same s0
    refine ⟨_, rfl, D, .int (W : Int), rfl, dgetR (Rd.of wv0.obj) rfl, ?_⟩
    refine ⟨l0, _, [V.int 0], rfl, rfl, e0, by omega, by omega, ?_, fun p0 np0 => ?_⟩
    · rw [Int.toNat_natCast]
      show 1 * W ≤ sizeLine
      exact Nat.le_of_lt (small63 (by omega))
    rw [Int.toNat_natCast, rep_flat]
    have s1 : Same H0 (upd H0 p0 (.lst (List.replicate W (.int 0)))) := same_upd np0
    have e1 : upd H0 p0 (.lst (List.replicate W (.int 0))) p0 = some (.lst ((netB W (ofH nm (E.take 0)) t).map V.int)) := by
      rw [upd_same, List.take_zero, show ofH nm [] = [] from rfl, net_nil, List.map_replicate]
    generalize upd H0 p0 (.lst (List.replicate W (.int 0))) = H1 at s1 e1 ⊢
    have s01 := s0.trans s1
    have np : H p0 = none := s0.free np0
    have wv1 := wv.same s01
    refine ⟨fun σ H' => ∃ (l : Addr), σ[3]? = some (some (V.ref l)) ∧ Same H H' ∧ H l = none ∧ H' l = some (.lst ((netB W (ofH nm E) t).map V.int)), ?_, fun σ H2 hm => ?_⟩
    · refine ⟨_, rfl, D, .ref le, rfl, dgetR (Rd.of wv1.obj) rfl, le, rfl, ⟨_, SqL.of wv1.en⟩, ?_⟩
      refine for_list (K := K) (xs := us) (fun i σ H' => ∃ (l : Addr) (y4 y5 y6 y7 : Option V), σ = [some (.ref D), some (.str nm), some (.int t), some (.ref l), y4, y5, y6, y7, none, none] ∧ Same H1 H' ∧ H l = none ∧ H' l = some (.lst ((netB W (ofH nm (E.take i)) t).map V.int)))
        ⟨p0, none, none, none, none, rfl, Same.refl _, np, e1⟩ (fun i σ H' _ p => ?_) (fun i y9 σ H3 hi p => ?_) (fun σ H3 p => ?_)
      · obtain ⟨_, _, _, _, _, _, s3, _⟩ := p
        exact SqL.of (s3 _ _ wv1.en)
      · obtain ⟨l, y4, y5, y6, y7, rfl, s3, nl, el⟩ := p
        obtain ⟨x, hx, tt, la, rfl, ht, hla⟩ := paired_get wv1.each hi
        have t1 := s3 _ _ ht
        have t2 := s3 _ _ hla
        have lam := am x (List.mem_of_getElem? hx)
        have tk : E.take (i + 1) = E.take i ++ [x] := by
          rw [List.take_add_one, hx]
          rfl
        rw [tk, ofH_snoc]
        refine ⟨tt, _, rfl, SqT.of t1, rfl, _, _, rfl, _, _, rfl, _, _, rfl, _, _, rfl, rfl, ?_⟩
        refine ⟨_, rfl, _, rfl, rfl, ?_⟩
        by_cases c0 : x.key = nm
        · refine ⟨_, by rw [show decide (V.str x.key = V.str nm) = true from decide_eq_true (by rw [c0])], iteT ?_⟩
          rw [if_pos c0]
          refine ⟨_, rfl, _, rfl, _, _, rfl, rfl, _, rfl, ite2 (fun e1 => ?_) (fun e1 => ?_)⟩
          · refine ⟨_, rfl, _, _, rfl, rfl, _, rfl, ite2 (fun e2 => ?_) (fun e2 => ?_)⟩
            · have lv : liveAt t x = true := decide_eq_true ⟨of_decide_eq_true e1, of_decide_eq_true e2⟩
              have na := net_add (w := W) (rs := ofH nm (E.take i)) lv lam
              have ln := netB_len W (ofH nm (E.take i)) t
              generalize netB W (ofH nm (E.take i)) t = net at el na ln
              refine ⟨_, rfl, _, rfl, l, la, _, _, rfl, SqL.of el, SqT.of t2, fun D1 nD => ?_⟩
              refine lc_it (ZM.walk_mixed (by rw [List.length_map, List.length_map, ln, lam])) (fun j H' => Same H3 H' ∧ H' D1 = some (.lst (((List.zipWith (· + ·) net x.am).take j).map V.int)))
                ⟨same_upd nD, upd_same⟩ (fun j H' _ p => ⟨SqL.of (p.1 _ _ el), SqT.of (p.1 _ _ t2)⟩) (fun j v H4 H5 hj p y => ?_) (fun H4 p => ?_)
              · obtain ⟨T1, x1, x2, rfl, nT, rfl, g1, g2⟩ := y
                obtain ⟨p1, p2⟩ := p
                obtain ⟨x', hx', rfl⟩ := get_int g1
                obtain ⟨y', hy', rfl⟩ := get_int g2
                have s5 : Same H4 (upd H4 T1 (.tup [.int x', .int y'])) := same_upd nT
                have hi2 : j < net.length := (List.getElem?_eq_some_iff.mp hx').1
                refine ⟨T1, [.int x', .int y'], rfl, SqT.of upd_same, rfl, .int x', [.int y'], rfl, .int y', [], rfl, rfl, rfl, ?_⟩
                refine ⟨_, rfl, _, rfl, x', y', rfl, rfl, _, s5 _ _ p2, ?_, same_putA (p1.trans s5) nD, ?_⟩
                · rw [List.length_map, List.length_take]
                  exact small1000 (by omega)
                · rw [upd_same, zw_take hx' hy', List.map_append]
                  rfl
              · obtain ⟨p1, p2⟩ := p
                rw [List.take_of_length_le (by rw [List.length_zipWith, List.length_map]; exact Nat.min_le_left _ _)] at p2
                exact ⟨D1, _, _, _, _, rfl, s3.trans p1, (s01.trans s3).free nD, by rw [← na]; exact p2⟩
            · refine ⟨l, _, _, _, _, rfl, s3, nl, ?_⟩
              rw [net_skip (decide_eq_false fun z => e2 (decide_eq_true z.2))]
              exact el
          · refine ⟨false, rfl, iteF ⟨l, _, _, _, _, rfl, s3, nl, ?_⟩⟩
            rw [net_skip (decide_eq_false fun z => e1 (decide_eq_true z.1))]
            exact el
        · rw [if_neg c0, List.append_nil]
          refine ⟨_, by rw [show decide (V.str x.key = V.str nm) = false from decide_eq_false fun z => c0 (V.str.inj z)], iteF (iteF ⟨l, _, _, _, _, rfl, s3, nl, el⟩)⟩
      · obtain ⟨l, y4, y5, y6, y7, rfl, s3, nl, el⟩ := p
        refine ⟨l, rfl, s01.trans s3, nl, ?_⟩
        rw [wv.each.length, List.take_length] at el
        exact el
    · obtain ⟨l, e, s2, nl, el⟩ := hm
      exact ⟨_, e, q l _ s2 nl el⟩
end
end My
set_option maxHeartbeats 4000000
namespace My
open PySem PySem.Spec PyProof.Rows L2 GX GxR
def tsW (rs : List Bw) (b e : Int) : List Int := b :: (rs.map (·.b)).filter (withinM b e)
def spWLef : Sp := fun vs H Q _ => ∃ (D lh le lk rw rm : Addr) (us : List V) (E : List Bw) (W : Nat) (nm : Str) (yv kv sv : V) (room : List Int) (b e : Int), vs = [.ref D, .ref rw, .int b, .int e] ∧ WVw H D W lh le lk us E ∧ H rw = some (.tup [.str nm, yv, .ref rm, kv, sv]) ∧ H rm = some (.tup (room.map V.int)) ∧ 1 ≤ W ∧ W ≤ 8 ∧ room.length = W ∧ (∀ x ∈ E, x.am.length = W) ∧ NN E ∧ E.length ≤ 60 ∧
  ∀ (t : Addr) (H' : Hp), Same H H' → H t = none → H' t = some (.tup ((leftTs room (ofH nm E) (tsW (ofH nm E) b e)).map V.int)) → Q (.ref t) H'
section
variable {P : Program} {w : World} {K : PySem.W.Frag} {mg : Str → Option Value} {base : Heap}
theorem ok_wlef {f fL : Addr} {fd fdL : FuncData} {k : Nat} (F : Fun K "_law_left" "_law_left" s_scLef f fd) (X : Txt mg)
    (GL : FnOk P w K mg base CX0 k fL fdL ["_law_world", "_law_name_here", "_law_time"] spWLod) (mL : mg "_law_load" = some (.ref fL)) (kL : PySem.W.keepIn K (.ref fL) = true) (bL : L2.Binds K fdL ["_law_world", "_law_name_here", "_law_time"] []) :
    FnOk P w K mg base CX0 (k + 1) f fd ["_law_world", "_law_row", "_law_begin", "_law_end"] spWLef := by
  refine F.ok scLef (fun vs H Q E h => ?_) (fun cdv A outer s H vs Q E hr h => ?_)
  · obtain ⟨D, lh, le, lk, rw, rm, us, E, W, nm, yv, kv, sv, room, b, e, rfl, _⟩ := h
    rfl
  · obtain ⟨D, lh, le, lk, rw, rm, us, E, W, nm, yv, kv, sv, room, b, e, rfl, wv, hrw, hrm, w1, w8, lr, am, nn, few, q⟩ := h
    refine ⟨_, (pss_cons (ps_set (i := 4) scLef.nd rfl (.inl rfl) (pe_op op_cat (pe_lst (pa_cons (pv 2) pa_nil)) (pe_lc (own := [("_law_one", 7)]) (g := (gName 7)) rfl scLef.nd (pi_list (pe_dget (hu_of hr) (pv 0) pe_str (fun _ _ => rfl))) (blkOk_by (own := [("_law_one", 7)]) (N := n_scLef) (sc := defScope s_scLef) (by decide +kernel)) (fun _ _ _ _ _ => (pg_name (i := 7) scLef.nd rfl (.inl rfl))) (fun _ _ _ _ _ => pts_one (PW.pt (pw_and (pt_cmpR op_eq (pe_ix (r := rIxT K) ix_tup (pv 7) pe_int (fun _ _ => rfl)) (pe_ix (r := rIxT K) ix_tup (pv 1) pe_int (fun _ _ => rfl)) (nomark _)) (pw_and1 (pt_chain op_lt op_lt (pv 2) (pe_ix (r := rIxT K) ix_tup (pv 7) pe_int (fun _ _ => rfl)) (pv 3)))))) (fun _ _ _ _ _ => (pe_ix (r := rIxT K) ix_tup (pv 7) pe_int (fun _ _ => rfl))))))
(pss_cons (ps_set (i := 5) scLef.nd rfl (.inr rfl) (pe_lc (own := [("_law_time", 6)]) (g := (gName 6)) (tt := tYes) rfl scLef.nd (pi_list (pv 4)) (blkOk_by (own := [("_law_time", 6)]) (N := n_scLef) (sc := defScope s_scLef) (by decide +kernel)) (fun _ _ _ _ _ => (pg_name (i := 6) scLef.nd rfl (.inl rfl))) (fun _ _ _ _ _ => pts_nil) (fun _ _ _ _ _ => (pe_call GL hr (by rfl) mL kL bL .nil pass0 (pa_cons (pv 0) (pa_cons (pe_ix (r := rIxT K) ix_tup (pv 1) pe_int (fun _ _ => rfl)) (pa_cons (pv 6) pa_nil)))))))
(pss_one (ps_ret (pe_callTy call_tuple_of (by rfl) X.tup bt_tuple (pa_cons (pe_lc (own := [("_law_k", 8)]) (g := (gName 8)) (tt := tYes) (te := (tOp (rI0 fun i j => .int (i - j)) (tOp (rIxT K) (tOp (rIxT K) (tVar 1) (tC (.int 2))) (tVar 8)) (tCB (rMax K) (tCons (tLc (iList K (tVar 5)) (gName 9) tYes (tOp (rIxL K) (tVar 9) (tVar 8)) [9]) tNil)))) rfl scLef.nd (pi_range1 (by rfl) X.range (pa_cons (pe_dget (hu_of hr) (pv 0) pe_str (fun _ _ => rfl)) pa_nil)) (blkOk_by (own := [("_law_k", 8)]) (N := n_scLef) (sc := defScope s_scLef) (by decide +kernel)) (fun _ _ _ _ _ => (pg_name (i := 8) scLef.nd rfl (.inr rfl))) (fun _ _ _ _ _ => pts_nil) (fun _ _ _ _ _ => (pe_op op_sub (pe_ix (r := rIxT K) ix_tup (pe_ix (r := rIxT K) ix_tup (pv 1) pe_int (fun _ _ => rfl)) (pv 8) (fun _ _ => rfl)) (pe_callB (r := rMax K) (cr_max rfl) (by rfl) X.max (by decide +kernel) (pa_cons (pe_lc (own := [("_law_load_here", 9)]) (g := (gName 9)) (tt := tYes) (te := (tOp (rIxL K) (tVar 9) (tVar 8))) (wi := (iList K (tVar 5))) rfl scLef.nd (pi_list (pv 5)) (blkOk_by (own := [("_law_load_here", 9)]) (by kernel_rfl)) (fun _ _ _ _ _ => (pg_name (i := 9) scLef.nd rfl (.inl rfl))) (fun _ _ _ _ _ => pts_nil) (fun _ _ _ _ _ => (pe_ix (r := rIxL K) ix_list (pv 9) (pv 8) (fun _ _ => rfl)))) pa_nil))))) pa_nil)))))), ?_⟩
    refine ⟨_, rfl, by show 1 ≤ sizeLine; decide, fun l0 n0 => ?_⟩
    have s0 := same_upd (o := .lst [V.int b]) n0
    have e0 : upd H l0 (.lst [V.int b]) l0 = some (.lst [V.int b]) := upd_same
    generalize upd H l0 (.lst [V.int b]) = H0 at s0 e0 ⊢
    have wv0 := wv.same s0
    -- the times
    refine ⟨_, rfl, D, .ref le, rfl, dgetR (Rd.of wv0.obj) rfl, le, rfl, ⟨_, SqL.of wv0.en⟩, fun D1 nD1 => ?_⟩
    refine lc_list (K := K) (xs := us) (fun i H' => Same H0 H' ∧ H' D1 = some (.lst (((((ofH nm (E.take i)).map (·.b)).filter (withinM b e))).map V.int))) ⟨same_upd nD1, by rw [List.take_zero]; exact upd_same⟩ (fun i H' _ p => SqL.of (p.1 _ _ wv0.en)) (fun i x H' hx p => ?_) (fun H1 p => ?_)
    · obtain ⟨p1, p2⟩ := p
      obtain ⟨x, hx2, tt, la, rfl, ht, hla⟩ := paired_get wv0.each hx
      have t1 := p1 _ _ ht
      have r1 := p1 _ _ (s0 _ _ hrw)
      have tk : E.take (i + 1) = E.take i ++ [x] := by
        rw [List.take_add_one, hx2]
        rfl
      have li : i < E.length := (List.getElem?_eq_some_iff.mp hx2).1
      have lsm : ((((ofH nm (E.take i)).map (·.b)).filter (withinM b e)).map V.int).length ≤ 100 := by
        rw [List.length_map]
        refine Nat.le_trans (List.length_filter_le _ _) ?_
        rw [List.length_map]
        unfold ofH
        refine Nat.le_trans (List.length_filter_le _ _) ?_
        rw [List.length_take]
        omega
      rw [tk, ofH_snoc]
      refine ⟨rfl, ?_⟩
      refine ⟨_, rfl, tt, _, 0, .str x.key, rfl, rfl, SqT.of t1, rfl, _, rfl, rw, _, 0, .str nm, rfl, rfl, SqT.of r1, rfl, rfl, ?_⟩
      by_cases c0 : x.key = nm
      · rw [if_pos c0, List.map_append, List.filter_append, List.map_append]
        refine ⟨_, by rw [show decide (V.str x.key = V.str nm) = true from decide_eq_true (by rw [c0])], iteT ?_⟩
        refine ⟨_, rfl, _, rfl, tt, _, 1, .int x.b, rfl, rfl, SqT.of t1, rfl, _, _, rfl, rfl, _, rfl, ite2 (fun e1 => ?_) (fun e1 => ?_)⟩
        · refine ⟨_, rfl, _, _, rfl, rfl, _, rfl, ite2 (fun e2 => ?_) (fun e2 => ?_)⟩
          · have wi : withinM b e x.b = true := by unfold withinM; rw [e1, e2]; rfl
            refine ⟨_, rfl, tt, _, 1, .int x.b, rfl, rfl, SqT.of t1, rfl, ?_⟩
            refine ⟨_, p2, sml (by omega), same_putA p1 nD1, ?_⟩
            rw [upd_same]
            show _ = some (HO.lst (_ ++ ([x.b].filter (withinM b e)).map V.int))
            rw [List.filter_cons_of_pos wi]
            rfl
          · have wi : ¬ withinM b e x.b = true := fun z => by
              unfold withinM at z
              rw [Bool.and_eq_true] at z
              exact e2 z.2
            refine ⟨p1, ?_⟩
            show H' D1 = some (HO.lst (_ ++ ([x.b].filter (withinM b e)).map V.int))
            rw [List.filter_cons_of_neg wi]
            show H' D1 = some (HO.lst (_ ++ []))
            rw [List.append_nil]
            exact p2
        · have wi : ¬ withinM b e x.b = true := fun z => by
            unfold withinM at z
            rw [Bool.and_eq_true] at z
            exact e1 z.1
          refine ⟨false, rfl, iteF ⟨p1, ?_⟩⟩
          show H' D1 = some (HO.lst (_ ++ ([x.b].filter (withinM b e)).map V.int))
          rw [List.filter_cons_of_neg wi]
          show H' D1 = some (HO.lst (_ ++ []))
          rw [List.append_nil]
          exact p2
      · rw [if_neg c0, List.append_nil]
        exact ⟨_, by rw [show decide (V.str x.key = V.str nm) = false from decide_eq_false fun z => c0 (V.str.inj z)], iteF (iteF ⟨p1, p2⟩)⟩
    obtain ⟨s1, e1⟩ := p
    rw [wv.each.length, List.take_length] at e1
    obtain ⟨rs, hrs⟩ : ∃ rs, ofH nm E = rs := ⟨_, rfl⟩
    have lrs : rs.length ≤ 60 := by rw [← hrs]; exact Nat.le_trans (List.length_filter_le _ _) few
    rw [hrs] at e1 q
    have lfs : ((rs.map (·.b)).filter (withinM b e)).length ≤ 60 := Nat.le_trans (List.length_filter_le _ _) (by rw [List.length_map]; exact lrs)
    refine ⟨l0, D1, _, _, rfl, rfl, s1 _ _ e0, e1, ?_, fun l4 n4 => ?_⟩
    · rw [List.length_map]
      exact Nat.le_trans (show _ ≤ 61 by show 1 + _ ≤ 61; omega) (by decide)
    have s2 := s1.trans (same_upd (o := .lst ([V.int b] ++ ((rs.map (·.b)).filter (withinM b e)).map V.int)) n4)
    have e2 : upd H1 l4 (.lst ([V.int b] ++ ((rs.map (·.b)).filter (withinM b e)).map V.int)) l4 = some (.lst ((tsW rs b e).map V.int)) := upd_same
    generalize upd H1 l4 (.lst ([V.int b] ++ ((rs.map (·.b)).filter (withinM b e)).map V.int)) = H2 at s2 e2 ⊢
    have lts : (tsW rs b e).length ≤ 61 := by unfold tsW; rw [List.length_cons]; omega
    obtain ⟨ts, hts⟩ : ∃ ts, tsW rs b e = ts := ⟨_, rfl⟩
    have tne : b ∈ ts := by rw [← hts]; exact List.mem_cons_self
    rw [hts] at e2 q lts
    clear e0 n4 n0 nD1
    have s02 := s0.trans s2
    -- the loads at them
    refine ⟨_, rfl, l4, rfl, ⟨_, SqL.of e2⟩, fun D2 nD2 => ?_⟩
    refine lc_list (K := K) (xs := ts.map V.int) (fun i H' => Same H2 H' ∧ ∃ ls : List Addr, H' D2 = some (.lst (ls.map V.ref)) ∧ Paired (fun (l : Addr) t => H' l = some (.lst ((netB W rs t).map V.int)) ∧ l ≠ D2) ls (ts.take i)) ⟨same_upd nD2, [], upd_same, .nil⟩ (fun i H' _ p => SqL.of (p.1 _ _ e2)) (fun i x H' hx p => ?_) (fun H3 p => ?_)
    · obtain ⟨p1, ls, p2, p3⟩ := p
      obtain ⟨t0, hx2, rfl⟩ : ∃ t, ts[i]? = some t ∧ x = V.int t := by
        rw [List.getElem?_map] at hx
        cases h : ts[i]? with
        | none => rw [h] at hx; cases hx
        | some t => rw [h] at hx; exact ⟨t, rfl, (Option.some.inj hx).symm⟩
      have li : i < ts.length := (List.getElem?_eq_some_iff.mp hx2).1
      have tk : ts.take (i + 1) = ts.take i ++ [t0] := by rw [List.take_add_one, hx2]; rfl
      have sp := s02.trans p1
      unfold tYes
      refine ⟨rfl, iteT ?_⟩
      refine ⟨_, rfl, _, rfl, rw, _, 0, .str nm, rfl, rfl, SqT.of (sp _ _ hrw), rfl, _, rfl, ?_⟩
      dsimp (config := { proj := false }) only [tNil, List.cons_append, List.nil_append, List.append_nil]
      refine ⟨D, lh, le, lk, us, E, W, nm, t0, rfl, wv.same sp, w8, am, few, fun l H4 s4 nl el => ?_⟩
      rw [hrs] at el
      have lD : l ≠ D2 := fun z => by rw [z, p2] at nl; cases nl
      refine ⟨_, s4 _ _ p2, by rw [List.length_map, p3.length, List.length_take]; exact sml (by omega), same_putA (p1.trans s4) nD2, ls ++ [l], by rw [upd_same, List.map_append]; rfl, ?_⟩
      rw [tk]
      exact paired_snoc (p3.mono fun l' t' g => ⟨by rw [upd_ne g.2]; exact s4 _ _ g.1, g.2⟩) ⟨by rw [upd_ne lD]; exact el, lD⟩
    obtain ⟨s3, ls, e3, p3⟩ := p
    rw [List.length_map, List.take_length] at p3
    have s03 := s02.trans s3
    have wv3 := wv.same s03
    clear e2
    have llen : (leftTs room rs ts).length = W := by rw [leftTs_len, lr]
    have nnr : NN rs := fun x hx => nn x (by rw [← hrs] at hx; exact (List.mem_filter.mp hx).1)
    refine ⟨_, rfl, D, .int (W : Int), rfl, dgetR (Rd.of wv3.obj) rfl, (W : Int), rfl, by omega, by omega, fun D3 nD3 => ?_⟩
    rw [Int.toNat_natCast]
    refine lc_range (lo := 0) (n := W) (fun j H' => Same H3 H' ∧ H' D3 = some (.lst (((leftTs room rs ts).take j).map V.int))) ⟨same_upd nD3, upd_same⟩ (fun j H4 hj p => ?_) (fun H4 p => ?_)
    · obtain ⟨p1, p2⟩ := p
      have sp := s03.trans p1
      have hj' : j < room.length := by rw [lr]; exact hj
      have hjl : j < (leftTs room rs ts).length := by rw [llen]; exact hj
      have f1 : room[j]? = some room[j] := List.getElem?_eq_getElem hj'
      refine ⟨rfl, ?_⟩
      refine ⟨_, rfl, rw, _, 2, .ref rm, rfl, rfl, SqT.of (sp _ _ hrw), rfl, _, rfl, rm, _, _, .int room[j], rfl, rfl, SqT.of (sp _ _ hrm), at_ints f1, ?_⟩
      refine ⟨_, rfl, D2, rfl, ⟨_, SqL.of (p1 _ _ e3)⟩, fun D4 nD4 => ?_⟩
      refine lc_list (K := K) (xs := ls.map V.ref) (fun i H' => Same H4 H' ∧ H' D4 = some (.lst (((ts.take i).map (fun t => col j rs t)).map V.int))) ⟨same_upd nD4, upd_same⟩ (fun i H' _ p => SqL.of (p.1 _ _ (p1 _ _ e3))) (fun i x H5 hx p => ?_) (fun H5 p => ?_)
      · obtain ⟨v1, v2⟩ := p
        rw [List.getElem?_map] at hx
        obtain ⟨l, hl, rfl⟩ : ∃ l, ls[i]? = some l ∧ x = V.ref l := by
          cases h : ls[i]? with
          | none => rw [h] at hx; cases hx
          | some l => rw [h] at hx; exact ⟨l, rfl, (Option.some.inj hx).symm⟩
        obtain ⟨t0, ht0, el, _⟩ := paired_get p3 hl
        have li : i < ts.length := (List.getElem?_eq_some_iff.mp ht0).1
        have tk : ts.take (i + 1) = ts.take i ++ [t0] := by rw [List.take_add_one, ht0]; rfl
        have en : (netB W rs t0)[j]? = some (col j rs t0) := by
          unfold netB col
          rw [List.getElem?_map, List.getElem?_range hj]
          rfl
        refine ⟨rfl, ?_⟩
        refine ⟨_, rfl, _, rfl, l, _, _, .int (col j rs t0), rfl, rfl, SqL.of ((p1.trans v1) _ _ el), at_ints en, ?_⟩
        refine ⟨_, v2, by rw [List.length_map, List.length_map, List.length_take]; exact sml (by omega), same_putA v1 nD4, ?_⟩
        rw [upd_same, tk, List.map_append, List.map_append]
        rfl
      · obtain ⟨v1, v2⟩ := p
        rw [List.length_map, p3.length, List.take_length] at v2
        refine ⟨D4, _, rfl, SqL.of v2, by rw [List.length_map]; exact List.length_pos_iff.mpr (fun z => by rw [z] at tne; cases tne), fun m m1 m2 => ?_⟩
        refine ⟨room[j], m, rfl, rfl, ?_⟩
        obtain ⟨t0, ht0, rfl⟩ := List.mem_map.mp m1
        have lm := leftTs_min (room := room) (rs := rs) ts hj'
        have rg : room.getD j 0 = room[j] := by rw [List.getD_eq_getElem?_getD, f1]; rfl
        have a1 := lm.1 t0 ht0
        have c0 := col_nn (j := j) (t := t0) nnr
        have eq : (leftTs room rs ts).getD j 0 = room[j] - col j rs t0 := by
          unfold valJ at a1 lm
          rcases lm.2 with g | ⟨t1, ht1, g⟩
          · omega
          · have := m2 _ (List.mem_map.mpr ⟨t1, ht1, rfl⟩)
            omega
        have f2 : (leftTs room rs ts)[j]? = some (room[j] - col j rs t0) := by
          rw [List.getElem?_eq_getElem hjl, ← eq, List.getD_eq_getElem?_getD, List.getElem?_eq_getElem hjl]
          rfl
        refine ⟨_, v1 _ _ p2, by rw [List.length_map, List.length_take]; exact sml (by omega), same_putA (p1.trans v1) nD3, ?_⟩
        rw [upd_same, List.take_add_one, f2, List.map_append]
        rfl
    · obtain ⟨p1, p2⟩ := p
      rw [List.take_of_length_le (by rw [llen]; exact Nat.le_refl _)] at p2
      refine ⟨D3, _, rfl, .inl ⟨SqL.of p2, fun t nt => ?_⟩⟩
      exact q t _ ((s03.trans p1).trans (same_upd nt)) ((s03.trans p1).free nt) upd_same
end
end My
set_option maxHeartbeats 4000000
namespace My
open PySem PySem.Spec PyProof.Rows L2 GX GxR
abbrev s_scNam : Stmt := topS 32
abbrev n_scNam : List Str := ["_law_box_here", "_law_used", "_law_some", "_law_letters", "_law_k", "_law_at", "_law_name_here"]
theorem scNam : FnScope n_scNam ["_law_box_here", "_law_used"] (defScope s_scNam) := ⟨rfl, rfl, rfl, by decide +kernel, rfl, by decide +kernel, by decide +kernel⟩
def pool47 : List Str := ["a", "aa", "ab", "b", "ba", "bb", "c", "cab", "d", "house", "m", "mm", "n", "ovals", "x", "xaa", "xab", "z"]
theorem pool47_nd : pool47.Nodup := by decide +kernel
theorem pool47_ok : (pool47.all fun w => PySem.PyData.strOk w && decide (w.length ≤ 20)) = true := by decide +kernel
/-- a text of small letters -/
def Ltr (z : Str) : Prop := ∀ c ∈ z.cps.toList, 97 ≤ c
def nm20 (z : Str) : Prop := z.length ≤ 20 ∧ Ltr z
theorem pool47_lt : ∀ z ∈ pool47, Ltr z := fun z hz c hc => by
  have h : (pool47.all fun w => w.cps.toList.all fun c => decide (97 ≤ c)) = true := by decide +kernel
  exact of_decide_eq_true (List.all_eq_true.mp (List.all_eq_true.mp h z hz) c hc)
def abc47 : Str := "abcdefghijklmnopqrstuvwxyz"
theorem abc_at : ∀ r : Int, 0 ≤ r → r < 26 → ∃ c, (c < 1114112 ∧ 97 ≤ c) ∧ atI abc47.cps.toList r = some c := by
  intro r h0 h1
  obtain ⟨n, rfl⟩ : ∃ n : Nat, r = n := ⟨r.toNat, by omega⟩
  have h : ((List.range 26).all fun i => match atI abc47.cps.toList (i : Int) with | some c => decide (c < 1114112 ∧ 97 ≤ c) | none => false) = true := by decide +kernel
  have := List.all_eq_true.mp h n (List.mem_range.mpr (by omega))
  split at this
  next c e => exact ⟨c, of_decide_eq_true this, e⟩
  · cases this
theorem join_lt : ∀ {ws : List Str}, (∀ w ∈ ws, Ltr w) → Ltr (Txt.join (Str.ofString "") ws) := by
  have h0 : (Str.ofString "").cps.toList = [] := by decide +kernel
  have key : ∀ (ws : List Str) (acc : Array Nat), (∀ c ∈ acc.toList, 97 ≤ c) → (∀ w ∈ ws, Ltr w) → ∀ c ∈ (ws.foldl (fun acc p => acc ++ (Str.ofString "").cps ++ p.cps) acc).toList, 97 ≤ c := by
    intro ws
    induction ws with
    | nil => intro acc h _; exact h
    | cons w ws ih =>
      intro acc h hw
      rw [List.foldl_cons]
      refine ih _ (fun c hc => ?_) fun v hv => hw v (List.mem_cons_of_mem _ hv)
      rw [Array.toList_append, Array.toList_append, h0, List.append_nil] at hc
      rcases List.mem_append.mp hc with hc | hc
      · exact h c hc
      · exact hw w List.mem_cons_self c hc
  intro ws h c hc
  refine key (ws.drop 1) (ws.headD Str.empty).cps ?_ (fun w hw => h w (List.mem_of_mem_drop hw)) c hc
  cases ws with
  | nil => intro c hc; cases hc
  | cons w ws => exact h w List.mem_cons_self
theorem nodup_le {α : Type} [DecidableEq α] : ∀ {xs ys : List α}, xs.Nodup → (∀ x ∈ xs, x ∈ ys) → xs.length ≤ ys.length
  | [], _, _, _ => Nat.zero_le _
  | x :: xs, ys, nd, sub => by
    have h1 : x ∈ ys := sub x List.mem_cons_self
    have ih := nodup_le (xs := xs) (ys := ys.erase x) (List.nodup_cons.mp nd).2 fun y hy => (List.mem_erase_of_ne fun e => (List.nodup_cons.mp nd).1 (by rw [← e]; exact hy)).mpr (sub y (List.mem_cons_of_mem _ hy))
    rw [List.length_erase_of_mem h1] at ih
    have := List.length_pos_of_mem h1
    rw [List.length_cons]
    omega
theorem join_ok : ∀ {ws : List Str}, (∀ w ∈ ws, PySem.PyData.strOk w = true) → PySem.PyData.strOk (Txt.join (Str.ofString "") ws) = true := by
  have key : ∀ (ws : List Str) (acc : Array Nat), (acc.all fun x => decide (x < 1114112)) = true → (∀ w ∈ ws, PySem.PyData.strOk w = true) → ((ws.foldl (fun acc p => acc ++ (Str.ofString "").cps ++ p.cps) acc).all fun x => decide (x < 1114112)) = true := by
    intro ws
    induction ws with
    | nil => intro acc h _; exact h
    | cons w ws ih =>
      intro acc h hw
      rw [List.foldl_cons]
      refine ih _ ?_ fun v hv => hw v (List.mem_cons_of_mem _ hv)
      have h1 : (w.cps.all fun x => decide (x < 1114112)) = true := hw w List.mem_cons_self
      have h0 : ((Str.ofString "").cps.all fun x => decide (x < 1114112)) = true := by decide +kernel
      rw [Array.all_append, Array.all_append, h, h1, h0]
      rfl
  intro ws h
  show ((List.foldl (fun acc p => acc ++ (Str.ofString "").cps ++ p.cps) (ws.headD Str.empty).cps (ws.drop 1)).all fun x => decide (x < 1114112)) = true
  refine key _ _ ?_ fun w hw => h w (List.mem_of_mem_drop hw)
  cases ws with
  | nil => show (Str.empty.cps.all fun x => decide (x < 1114112)) = true; decide +kernel
  | cons w ws => exact h w List.mem_cons_self
def spWNam : Sp := fun vs H Q _ => ∃ (b a : Addr) (c : Int) (us : List Str), vs = [.ref b, .ref a] ∧ BoxAt H b c ∧ c ≤ 900000 ∧ H a = some (.lst (us.map V.str)) ∧ us.length ≤ 17 ∧
  ∀ (z : Str) (H' : Hp), Kp [b] H H' → BoxAt H' b (c + 30) → PySem.PyData.strOk z = true → nm20 z → z ∉ us → Q (.str z) H'
section
variable {P : Program} {w : World} {K : PySem.W.Frag} {mg : Str → Option Value} {base : Heap}
theorem ok_wnam {f fT : Addr} {fd fdT : FuncData} {k : Nat} (F : Fun K "_law_name" "_law_name" s_scNam f fd) (X : Txt mg)
    (GT : FnOk P w K mg base CX0 k fT fdT ["_law_box_here", "_law_many"] spTakeW) (mT : mg "_law_take" = some (.ref fT)) (kT : PySem.W.keepIn K (.ref fT) = true) (bT : L2.Binds K fdT ["_law_box_here", "_law_many"] []) :
    FnOk P w K mg base CX0 (k + 1) f fd ["_law_box_here", "_law_used"] spWNam := by
  refine F.ok scNam (fun vs H Q E h => ?_) (fun cdv A outer s H vs Q E hr h => ?_)
  · obtain ⟨b, a, c, us, rfl, _⟩ := h
    rfl
  · obtain ⟨b, a, c, us, rfl, B, hc, ha, lu, q⟩ := h
    refine ⟨_, (pss_cons (ps_set (i := 2) scNam.nd rfl (.inl rfl) (pe_lst (pa_cons pe_str (pa_cons pe_str (pa_cons pe_str (pa_cons pe_str (pa_cons pe_str (pa_cons pe_str (pa_cons pe_str (pa_cons pe_str (pa_cons pe_str (pa_cons pe_str (pa_cons pe_str (pa_cons pe_str (pa_cons pe_str (pa_cons pe_str (pa_cons pe_str (pa_cons pe_str (pa_cons pe_str (pa_cons pe_str pa_nil))))))))))))))))))))
(C8.pss_cut (ps_if (pt_cmpR op_eq (pe_call GT hr (by rfl) mT kT bT .nil pass0 (pa_cons (pv 0) (pa_cons pe_int pa_nil))) pe_int (nomark _))
  (pss_cons (ps_set (i := 3) scNam.nd rfl (.inr rfl) pe_str)
  (pss_one (ps_set (i := 2) scNam.nd rfl (.inl rfl) (pe_op op_cat (pe_lst (pa_cons (pe_join pe_str (pe_lc (own := [("_law_k", 4)]) (g := (gName 4)) (tt := tYes) rfl scNam.nd (pi_range1 (by rfl) X.range (pa_cons (pe_op op_add pe_int (pe_call GT hr (by rfl) mT kT bT .nil pass0 (pa_cons (pv 0) (pa_cons pe_int pa_nil)))) pa_nil)) (blkOk_by (own := [("_law_k", 4)]) (N := n_scNam) (sc := defScope s_scNam) (by decide +kernel)) (fun _ _ _ _ _ => (pg_name (i := 4) scNam.nd rfl (.inl rfl))) (fun _ _ _ _ _ => pts_nil) (fun _ _ _ _ _ => (pe_ix ix_str (pv 3) (pe_call GT hr (by rfl) mT kT bT .nil pass0 (pa_cons (pv 0) (pa_cons pe_int pa_nil))) (fun _ _ => rfl))))) pa_nil)) (pv 2)))))
  pss_nil)
(pss_cons (ps_set (i := 5) scNam.nd rfl (.inl rfl) (pe_call GT hr (by rfl) mT kT bT .nil pass0 (pa_cons (pv 0) (pa_cons (pe_callB call_len_seq (by rfl) X.len PySem.boot_len (pa_cons (pv 2) pa_nil)) pa_nil))))
(C8.pss_cut (ps_for PassesOwn.never rfl (pi_range1 (by rfl) X.range (pa_cons (pe_callB call_len_seq (by rfl) X.len PySem.boot_len (pa_cons (pv 2) pa_nil)) pa_nil)) (pg_name (i := 4) scNam.nd rfl (.inl rfl))
  (pss_cons (ps_set (i := 6) scNam.nd rfl (.inl rfl) (pe_ix ix_list (pv 2) (pe_op op_mod (pe_op op_add (pv 5) (pv 4)) (pe_callB call_len_seq (by rfl) X.len PySem.boot_len (pa_cons (pv 2) pa_nil))) (fun _ _ => rfl)))
  (pss_one (ps_if (pt_cmpR op_notIn_seq (pv 6) (pv 1) (by rfl))
    (pss_one (ps_ret (pv 6)))
    pss_nil))))
(pss_one (ps_ret (pe_op op_add_str pe_str (pe_ix ix_str pe_str (pe_op op_mod (pe_callB call_len_seq (by rfl) X.len PySem.boot_len (pa_cons (pv 1) pa_nil)) pe_int) (fun _ _ => rfl))))))))), ?_⟩
    refine ⟨by show 18 ≤ sizeLine; decide, fun l nl => ?_⟩
    have s1 := same_upd (o := .lst (pool47.map V.str)) nl
    have e1 : upd H l (.lst (pool47.map V.str)) l = some (.lst (pool47.map V.str)) := upd_same
    have lb := nb_of B nl
    have B1 := B.same s1
    have k1 : Kp [b] H (upd H l (.lst (pool47.map V.str))) := Same.kp _ s1
    have ab : a ∉ [b] := fun z => by
      obtain ⟨xs, h1, ⟨_, _, _, h2, _⟩⟩ := B
      rw [List.mem_singleton.mp z, h1, h2] at ha
      cases us with
      | nil => cases ha
      | cons z8 zs8 => cases ha
    have lb' : l ∉ [b] := fun z => lb (List.mem_singleton.mp z)
    show _
    have eg : (fun (H1 : Hp) => H1) (upd H l (.lst (pool47.map V.str))) = upd H l (.lst [V.str "a", V.str "aa", V.str "ab", V.str "b", V.str "ba", V.str "bb", V.str "c", V.str "cab", V.str "d", V.str "house", V.str "m", V.str "mm", V.str "n", V.str "ovals", V.str "x", V.str "xaa", V.str "xab", V.str "z"]) := rfl
    rw [← eg]
    dsimp only
    generalize upd H l (.lst (pool47.map V.str)) = H1 at e1 B1 k1 ⊢
    have pok : ∀ z ∈ pool47, PySem.PyData.strOk z = true ∧ nm20 z := fun z hz => by
      have := List.all_eq_true.mp pool47_ok z hz
      rw [Bool.and_eq_true, decide_eq_true_eq] at this
      exact ⟨this.1, this.2, pool47_lt z hz⟩
    refine ⟨fun σ H' => ∃ (y3 : Option V) (ls : Addr) (ss pre : List Str), σ = [some (.ref b), some (.ref a), some (.ref ls), y3, none, none, none] ∧ Kp [b] H H' ∧ BoxAt H' b (c + 20) ∧ H' ls = some (.lst (ss.map V.str)) ∧ ss = pre ++ pool47 ∧ pre.length ≤ 1 ∧ (∀ z ∈ ss, PySem.PyData.strOk z = true ∧ nm20 z) ∧ ls ∉ [b], ?_, fun σ H2 hm => ?_⟩
    · refine ⟨_, rfl, b, _, 12, rfl, B1, by decide, by decide, by omega, fun r H2 a0 a1 k2 B2 => ?_⟩
      have e2 := k2 _ _ lb' e1
      have k12 := k1.trans k2
      refine ⟨rfl, _, rfl, ite2 (fun ho => ?_) (fun ho => ⟨none, l, pool47, [], rfl, k12, B2.le (by omega), e2, rfl, Nat.zero_le _, pok, lb'⟩)⟩
      refine ⟨⟨_, rfl⟩, _, rfl, b, _, 8, rfl, B2, by decide, by decide, by omega, fun r1 H3 r10 r11 k3 B3 => ?_⟩
      refine ⟨1, r1, rfl, rfl, _, rfl, by omega, by omega, fun D nD => ?_⟩
      have e3 := k3 _ _ lb' e2
      have k13 := k12.trans k3
      have nDb : D ≠ b := nb_of B3 nD
      have nbD : D ∉ [b] := fun z => nDb (List.mem_singleton.mp z)
      refine lc_range (lo := 0) (n := (1 + r1).toNat) (fun i H' => Kp [b] H3 H' ∧ BoxAt H' b (c + 2 + i) ∧ ∃ ws : List Str, H' D = some (.lst (ws.map V.str)) ∧ ws.length = i ∧ ∀ w ∈ ws, w.length = 1 ∧ PySem.PyData.strOk w = true ∧ Ltr w)
        ⟨Same.kp _ (same_upd nD), (B3.same (same_upd nD)).le (by omega), [], upd_same, rfl, fun _ h => (nomatch h)⟩ (fun i H4 hi p => ?_) (fun H4 p => ?_)
      · obtain ⟨p1, p2, ws, p3, p4, p5⟩ := p
        refine ⟨rfl, ?_⟩
        refine ⟨_, rfl, _, rfl, b, _, 26, rfl, p2, by decide, by decide, by omega, fun r4 H5 r0 rlt k5 B5 => ?_⟩
        obtain ⟨cc, hc2, hcc⟩ := abc_at r4 r0 rlt
        refine ⟨_, r4, cc, rfl, rfl, by decide +kernel, hcc, _, k5 _ _ nbD p3, by rw [List.length_map, p4]; exact small1000 (by omega), kp_put (p1.trans k5) nD, ?_, ws ++ [⟨#[cc]⟩], by rw [upd_same, List.map_append]; rfl, by rw [List.length_append, p4]; rfl, fun w hw => ?_⟩
        · obtain ⟨xs, h1, h2⟩ := B5.le (c' := c + 2 + ((i + 1 : Nat) : Int)) (by omega)
          exact ⟨xs, by rw [upd_ne nDb.symm]; exact h1, h2⟩
        · rcases List.mem_append.mp hw with hw | hw
          · exact p5 w hw
          · cases List.mem_singleton.mp hw
            refine ⟨rfl, ?_, fun c hc => by rw [List.mem_singleton.mp (show c ∈ [cc] from hc)]; exact hc2.2⟩
            show (#[cc].all fun x => decide (x < 1114112)) = true
            simp [hc2.1]
      · obtain ⟨p1, p2, ws, p3, p4, p5⟩ := p
        have hsum : (ws.map (·.length)).sum = ws.length := by
          clear p3 p4
          induction ws with
          | nil => rfl
          | cons w0 r ih =>
            rw [List.map_cons, List.sum_cons, List.length_cons, ih (fun w hw => p5 w (List.mem_cons_of_mem _ hw)), (p5 w0 List.mem_cons_self).1]
            omega
        have hj : (Txt.join (Str.ofString "") ws).length = ws.length := PySem.W.KT.join_ones ws fun w hw => (p5 w hw).1
        have hok := join_ok (ws := ws) fun w hw => (p5 w hw).2.1
        have hlt := join_lt (ws := ws) fun w hw => (p5 w hw).2.2
        refine ⟨_, D, ws, rfl, rfl, .inl (SqL.of p3), ?_, ?_⟩
        · rw [hsum, show (Str.ofString "").length = 0 by decide +kernel]
          omega
        obtain ⟨tx, htx⟩ : ∃ tx, Txt.join (Str.ofString "") ws = tx := ⟨_, rfl⟩
        rw [show Txt.join (Str.ofString "") ws = tx from htx] at hj hok hlt
        rw [htx]
        refine ⟨by show 1 ≤ sizeLine; decide, fun l2 nl2 => ?_⟩
        have s5 := same_upd (o := .lst [V.str tx]) nl2
        have e5 : upd H4 l2 (.lst [V.str tx]) l2 = some (.lst [V.str tx]) := upd_same
        have l5 := s5 _ _ (p1 _ _ lb' e3)
        have B5 := p2.same s5
        have k5 := kp_new (o := .lst [V.str tx]) (k13.trans p1) nl2
        generalize upd H4 l2 (.lst [V.str tx]) = H5 at e5 l5 B5 k5 ⊢
        refine ⟨_, rfl, l2, l, _, _, rfl, rfl, e5, l5, (by show 19 ≤ sizeLine; decide), fun l3 nl3 => ?_⟩
        refine ⟨_, l3, tx :: pool47, [tx], rfl, kp_new k5 nl3, (B5.same (same_upd nl3)).le (by omega), upd_same, rfl, Nat.le_refl _, fun z hz => ?_, fun z => nb_of B5 nl3 (List.mem_singleton.mp z)⟩
        rcases List.mem_cons.mp hz with rfl | hz
        · exact ⟨hok, by omega, hlt⟩
        · exact pok z hz
    · obtain ⟨y3, ls, ss, pre, rfl, k2, B2, e2, hss, lp, sok, lsb⟩ := hm
      have lss : ss.length = pre.length + 18 := by rw [hss, List.length_append]; rfl
      refine ⟨_, rfl, _, rfl, ls, _, rfl, .inl (SqL.of e2), b, _, _, rfl, B2, ?_, ?_, by omega, fun r H3 r0 r1 k3 B3 => ?_⟩
      · rw [List.length_map]; omega
      · rw [List.length_map]; omega
      rw [List.length_map] at r1
      have e3 := k3 _ _ lsb e2
      have k13 := k2.trans k3
      have ha3 := k13 _ _ ab ha
      obtain ⟨rn, rfl⟩ : ∃ rn : Nat, r = rn := ⟨r.toNat, by omega⟩
      refine ⟨fun σ H' => False, ?_, fun σ H' h => h.elim⟩
      refine ⟨_, rfl, ls, _, rfl, .inl (SqL.of e3), _, rfl, ?_, ?_, ?_⟩
      · rw [List.length_map]; omega
      · rw [List.length_map]; omega
      rw [List.length_map, Int.toNat_natCast]
      refine for_range (lo := 0) (n := ss.length) (fun i σ H' => ∃ (y4 y6 : Option V), σ = [some (.ref b), some (.ref a), some (.ref ls), y3, y4, some (.int (rn : Int)), y6] ∧ H' = H3 ∧ ∀ j, j < i → ∀ z, ss[(rn + j) % ss.length]? = some z → z ∈ us)
        ⟨_, _, rfl, rfl, fun j h => by omega⟩ (fun i σ H4 hi p => ?_) (fun σ H4 p => ?_)
      · obtain ⟨y4, y6, rfl, rfl, low⟩ := p
        have hm : (rn + i) % ss.length < ss.length := Nat.mod_lt _ (by omega)
        obtain ⟨z, hz⟩ : ∃ z, ss[(rn + i) % ss.length]? = some z := ⟨_, List.getElem?_eq_getElem hm⟩
        refine ⟨_, rfl, _, rfl, _, rfl, _, _, rfl, rfl, _, rfl, ls, _, rfl, .inl (SqL.of e3), ?_⟩
        rw [List.length_map]
        have ei : ((rn : Int) + (0 + (i : Int))) % (ss.length : Int) = (((rn + i) % ss.length : Nat) : Int) := by rw [Int.natCast_emod, Int.natCast_add, Int.zero_add]
        refine ⟨_, _, rfl, rfl, by omega, ls, _, _, .str z, rfl, rfl, SqL.of e3, ?_, ?_⟩
        · show atI _ (((rn : Int) + (0 + (i : Int))) % (ss.length : Int)) = _
          rw [ei]
          exact atI_nat (by rw [List.getElem?_map, hz]; rfl)
        have allf : (us.map V.str).all flatV = true := List.all_eq_true.mpr fun x hx => by
          obtain ⟨z9, _, rfl⟩ := List.mem_map.mp hx
          rfl
        refine ⟨_, rfl, _, rfl, a, _, rfl, .inl (SqL.of ha3), rfl, allf, ?_⟩
        have ein : inV (V.str z) (us.map V.str) = decide (z ∈ us) := inV_strs z us
        rw [ein]
        by_cases c9 : z ∈ us
        · rw [decide_eq_true c9]
          refine ⟨false, rfl, iteF ⟨_, _, rfl, rfl, fun j hj z2 h2 => ?_⟩⟩
          by_cases cj : j < i
          · exact low j cj z2 h2
          · rw [show j = i by omega, hz] at h2
            cases h2
            exact c9
        · rw [decide_eq_false c9]
          refine ⟨true, rfl, iteT ⟨_, rfl, ?_⟩⟩
          have := sok z (List.mem_of_getElem? hz)
          exact q z _ k13 (B3.le (by omega)) this.1 this.2 c9
      · obtain ⟨y4, y6, rfl, rfl, low⟩ := p
        have all : ∀ z ∈ pool47, z ∈ us := fun z hz => by
          have hz2 : z ∈ ss := by rw [hss]; exact List.mem_append_right _ hz
          obtain ⟨i, hi⟩ := List.getElem?_of_mem hz2
          have il : i < ss.length := (List.getElem?_eq_some_iff.mp hi).1
          have e : (rn + (i + ss.length - rn) % ss.length) % ss.length = i := by
            rw [Nat.add_mod_mod, show rn + (i + ss.length - rn) = i + ss.length by omega, Nat.add_mod_right, Nat.mod_eq_of_lt il]
          exact low _ (Nat.mod_lt _ (by omega)) z (by rw [e]; exact hi)
        have := nodup_le pool47_nd all
        have h18 : pool47.length = 18 := rfl
        omega
end
end My
set_option maxHeartbeats 4000000
namespace My
open PySem PySem.Spec PyProof.Rows L2 GX GxR
abbrev s_scKnd : Stmt := topS 35
abbrev n_scKnd : List Str := ["_law_box_here", "_law_wares", "_law_kinds_here", "_law_k", "_law_name_here", "_law_most", "_law_kind"]
theorem scKnd : FnScope n_scKnd ["_law_box_here", "_law_wares"] (defScope s_scKnd) := ⟨rfl, rfl, rfl, by decide +kernel, rfl, by decide +kernel, by decide +kernel⟩
structure Kn where
  name : Str
  yard : Str
  room : List Int
  most : Int
def KndAt (H : Hp) (v : V) (k : Kn) : Prop := ∃ t am : Addr, v = .ref t ∧ H t = some (.tup [.str k.name, .str k.yard, .ref am, .int k.most]) ∧ H am = some (.tup (k.room.map V.int))
theorem KndAt.kt {H H' : Hp} {v : V} {k : Kn} (kt : KTu H H') (h : KndAt H v k) : KndAt H' v k := by
  obtain ⟨t, am, h0, h1, h2⟩ := h
  exact ⟨t, am, h0, kt _ _ h1, kt _ _ h2⟩
structure KnOk (W : Nat) (k : Kn) : Prop where
  nm : PySem.PyData.strOk k.name = true ∧ nm20 k.name
  yd : PySem.PyData.strOk k.yard = true
  rl : k.room.length = W
  rb : ∀ n ∈ k.room, 0 ≤ n ∧ n ≤ 1000000000000
  m1 : 1 ≤ k.most
  m2 : k.most ≤ 40
structure KnsOk (W : Nat) (ks : List Kn) : Prop where
  each : ∀ k ∈ ks, KnOk W k
  nd : (ks.map (·.name)).Nodup
def spWKnd : Sp := fun vs H Q _ => ∃ (b : Addr) (c : Int) (W : Nat), vs = [.ref b, .int (W : Int)] ∧ BoxAt H b c ∧ c ≤ 100000 ∧ 1 ≤ W ∧ W ≤ 8 ∧
  ∀ (l : Addr) (us : List V) (ks : List Kn) (H' : Hp), Kp [b] H H' → BoxAt H' b (c + 600) → H l = none → H' l = some (.lst us) → Paired (KndAt H') us ks → KnsOk W ks → 1 ≤ ks.length → ks.length ≤ 7 → Q (.ref l) H'
section
variable {P : Program} {w : World} {K : PySem.W.Frag} {mg : Str → Option Value} {base : Heap}
theorem ok_wknd {f fT fN fA : Addr} {fd fdT fdN fdA : FuncData} {k : Nat} (F : Fun K "_law_kinds" "_law_kinds" s_scKnd f fd) (X : Txt mg)
    (GT : FnOk P w K mg base CX0 k fT fdT ["_law_box_here", "_law_many"] spTakeW) (mT : mg "_law_take" = some (.ref fT)) (kT : PySem.W.keepIn K (.ref fT) = true) (bT : L2.Binds K fdT ["_law_box_here", "_law_many"] [])
    (GN : FnOk P w K mg base CX0 k fN fdN ["_law_box_here", "_law_used"] spWNam) (mN : mg "_law_name" = some (.ref fN)) (kN : PySem.W.keepIn K (.ref fN) = true) (bN : L2.Binds K fdN ["_law_box_here", "_law_used"] [])
    (GA : FnOk P w K mg base CX0 k fA fdA ["_law_box_here", "_law_wares"] spWAmt) (mA : mg "_law_amount" = some (.ref fA)) (kA : PySem.W.keepIn K (.ref fA) = true) (bA : L2.Binds K fdA ["_law_box_here", "_law_wares"] []) :
    FnOk P w K mg base CX0 (k + 1) f fd ["_law_box_here", "_law_wares"] spWKnd := by
  refine F.ok scKnd (fun vs H Q E h => ?_) (fun cdv A outer s H vs Q E hr h => ?_)
  · obtain ⟨b, c, W, rfl, _⟩ := h
    rfl
  · obtain ⟨b, c, W, rfl, B, hc, w1, w8, q⟩ := h
    refine ⟨_, (pss_cons (ps_set (i := 2) scKnd.nd rfl (.inl rfl) (pe_lst pa_nil))
(C8.pss_cut (ps_for PassesOwn.never rfl (pi_range1 (by rfl) X.range (pa_cons (pe_op op_add (pe_op op_add pe_int (pe_call GT hr (by rfl) mT kT bT .nil pass0 (pa_cons (pv 0) (pa_cons pe_int pa_nil)))) (pe_op op_mul pe_int (pe_callTy call_int1 (by rfl) X.int bt_int (pa_cons (pe_cmpR op_eq (pe_call GT hr (by rfl) mT kT bT .nil pass0 (pa_cons (pv 0) (pa_cons pe_int pa_nil))) pe_int (nomark _)) pa_nil)))) pa_nil)) (pg_name (i := 3) scKnd.nd rfl (.inl rfl))
  (pss_cons (ps_set (i := 4) scKnd.nd rfl (.inl rfl) (pe_call GN hr (by rfl) mN kN bN .nil pass0 (pa_cons (pv 0) (pa_cons (pe_lc (own := [("_law_kind", 6)]) (g := (gName 6)) (tt := tYes) rfl scKnd.nd (pi_list (pv 2)) (blkOk_by (own := [("_law_kind", 6)]) (N := n_scKnd) (sc := defScope s_scKnd) (by decide +kernel)) (fun _ _ _ _ _ => (pg_name (i := 6) scKnd.nd rfl (.inl rfl))) (fun _ _ _ _ _ => pts_nil) (fun _ _ _ _ _ => (pe_ix (r := rIxT K) ix_tup (pv 6) pe_int (fun _ _ => rfl)))) pa_nil))))
  (pss_cons (ps_set (i := 5) scKnd.nd rfl (.inl rfl) (pe_ix ix_list (pe_lst (pa_cons (pe_op op_add pe_int (pe_call GT hr (by rfl) mT kT bT .nil pass0 (pa_cons (pv 0) (pa_cons pe_int pa_nil)))) (pa_cons (pe_op op_add pe_int (pe_call GT hr (by rfl) mT kT bT .nil pass0 (pa_cons (pv 0) (pa_cons pe_int pa_nil)))) pa_nil))) (pe_callTy call_int1 (by rfl) X.int bt_int (pa_cons (pe_cmpR op_eq (pe_call GT hr (by rfl) mT kT bT .nil pass0 (pa_cons (pv 0) (pa_cons pe_int pa_nil))) pe_int (nomark _)) pa_nil)) (fun _ _ => rfl)))
  (pss_one (ps_expr (pe_bm PySem.F.plainAttrs_list PySem.F.slot_list_append PySem.F.type_list_append mt_append (pv 2) (pa_cons (pe_tup (pa_cons (pv 4) (pa_cons (pe_ix ix_list (pe_lst (pa_cons pe_str (pa_cons pe_str (pa_cons pe_str pa_nil)))) (pe_call GT hr (by rfl) mT kT bT .nil pass0 (pa_cons (pv 0) (pa_cons pe_int pa_nil))) (fun _ _ => rfl)) (pa_cons (pe_call GA hr (by rfl) mA kA bA .nil pass0 (pa_cons (pv 0) (pa_cons (pv 1) pa_nil))) (pa_cons (pv 5) pa_nil))))) pa_nil)))))))
(pss_one (ps_ret (pv 2))))), ?_⟩
    refine ⟨by show 0 ≤ sizeLine; decide, fun l nl => ?_⟩
    have s1 := same_upd (o := .lst []) nl
    have e1 : upd H l (.lst []) l = some (.lst []) := upd_same
    have lb := nb_of B nl
    have lb' : l ∉ [b] := fun z => lb (List.mem_singleton.mp z)
    have B1 := B.same s1
    have k1 : Kp [b] H (upd H l (.lst [])) := Same.kp _ s1
    generalize upd H l (.lst []) = H1 at e1 B1 k1 ⊢
    refine ⟨fun σ H' => ∃ (y3 y4 y5 : Option V) (us : List V) (ks : List Kn), σ = [some (.ref b), some (.int (W : Int)), some (.ref l), y3, y4, y5, none] ∧ Kp [b] H H' ∧ BoxAt H' b (c + 600) ∧ H' l = some (.lst us) ∧ Paired (KndAt H') us ks ∧ KnsOk W ks ∧ 1 ≤ ks.length ∧ ks.length ≤ 7, ?_, fun σ H2 hm => ?_⟩
    · refine ⟨_, rfl, b, _, 4, rfl, B1, by decide, by decide, by omega, fun r1 H2 a1 b1 k2 B2 => ?_⟩
      refine ⟨1, r1, rfl, rfl, ?_⟩
      refine ⟨_, rfl, b, _, 8, rfl, B2, by decide, by decide, by omega, fun r2 H3 a2 b2 k3 B3 => ?_⟩
      refine ⟨rfl, .inr ⟨_, rfl, ?_⟩⟩
      obtain ⟨m, hm, m0, m1⟩ : ∃ m : Int, (if decide (V.int r2 = V.int 0) = true then (1 : Int) else 0) = m ∧ 0 ≤ m ∧ m ≤ 1 := ⟨_, rfl, by split <;> decide, by split <;> decide⟩
      rw [hm]
      refine ⟨3, m, rfl, rfl, .inl ⟨by omega, by omega⟩, _, _, rfl, rfl, _, rfl, by omega, by omega, ?_⟩
      obtain ⟨n, hn, n1, n7⟩ : ∃ n : Nat, (1 + r1 + 3 * m) = (n : Int) ∧ 1 ≤ n ∧ n ≤ 7 := ⟨(1 + r1 + 3 * m).toNat, by omega, by omega, by omega⟩
      rw [hn, Int.toNat_natCast]
      have e3 := k3 _ _ lb' (k2 _ _ lb' e1)
      have k13 := (k1.trans k2).trans k3
      refine for_range (lo := 0) (n := n) (fun i σ H' => ∃ (y3 y4 y5 : Option V) (us : List V) (ks : List Kn), σ = [some (.ref b), some (.int (W : Int)), some (.ref l), y3, y4, y5, none] ∧ Kp [b] H H' ∧ BoxAt H' b (c + 2 + 80 * (i : Int)) ∧ H' l = some (.lst us) ∧ Paired (KndAt H') us ks ∧ KnsOk W ks ∧ ks.length = i)
        ⟨none, none, none, [], [], rfl, k13, B3.le (by omega), e3, .nil, ⟨fun k hk => (nomatch hk), .nil⟩, rfl⟩ (fun i σ H4 hi p => ?_) (fun σ H4 p => ?_)
      · obtain ⟨y3, y4, y5, us, ks, rfl, p1, p2, p3, p4, p5, p6⟩ := p
        have lus : us.length = ks.length := p4.length
        refine ⟨_, rfl, _, rfl, l, rfl, ⟨_, SqL.of p3⟩, fun D nD => ?_⟩
        have Db := nb_of p2 nD
        have Db' : D ∉ [b] := fun z => Db (List.mem_singleton.mp z)
        refine lc_list (K := K) (xs := us) (fun j H' => Same H4 H' ∧ H' D = some (.lst (((ks.take j).map (·.name)).map V.str)) ) ⟨same_upd nD, upd_same⟩ (fun j H' _ v => SqL.of (v.1 _ _ p3)) (fun j x H5 hx v => ?_) (fun H5 v => ?_)
        · obtain ⟨v1, v2⟩ := v
          obtain ⟨k0, hk0, t, am, rfl, ht, ham⟩ := paired_get p4 hx
          have li : j < ks.length := (List.getElem?_eq_some_iff.mp hk0).1
          have tk : ks.take (j + 1) = ks.take j ++ [k0] := by rw [List.take_add_one, hk0]; rfl
          refine ⟨rfl, ?_⟩
          refine ⟨_, rfl, t, _, 0, .str k0.name, rfl, rfl, SqT.of (v1 _ _ ht), rfl, ?_⟩
          refine ⟨_, v2, by rw [List.length_map, List.length_map, List.length_take]; exact small63 (by omega), same_putA v1 nD, ?_⟩
          rw [upd_same, tk, List.map_append, List.map_append]
          rfl
        · obtain ⟨v1, v2⟩ := v
          rw [lus, List.take_length] at v2
          have e5 := v1 _ _ p3
          refine ⟨b, D, _, ks.map (·.name), rfl, p2.same v1, by omega, v2, by rw [List.length_map]; omega, fun z H6 k6 B6 zok zl zn => ?_⟩
          have e6 := k6 _ _ lb' e5
          have k46 : Kp [b] H4 H6 := (Same.kp _ v1).trans k6
          refine ⟨_, rfl, b, _, 4, rfl, B6, by decide, by decide, by omega, fun r7 H7 a7 b7 k7 B7 => ?_⟩
          refine ⟨1, r7, rfl, rfl, ?_⟩
          refine ⟨_, rfl, b, _, 40, rfl, B7, by decide, by decide, by omega, fun r8 H8 a8 b8 k8 B8 => ?_⟩
          refine ⟨1, r8, rfl, rfl, by show 2 ≤ sizeLine; decide, fun L nL => ?_⟩
          have e8 := k8 _ _ lb' (k7 _ _ lb' e6)
          have k48 := (k46.trans k7).trans k8
          have s9 := same_upd (o := .lst [V.int (1 + r7), .int (1 + r8)]) nL
          have e9 : upd H8 L (.lst [V.int (1 + r7), .int (1 + r8)]) L = some (.lst [V.int (1 + r7), .int (1 + r8)]) := upd_same
          have lL := nb_of B8 nL
          have B9 := B8.same s9
          have k9 : Kp [b] H4 (upd H8 L (.lst [V.int (1 + r7), .int (1 + r8)])) := kp_new k48 nL
          have e89 := s9 _ _ e8
          generalize upd H8 L (.lst [V.int (1 + r7), .int (1 + r8)]) = H9 at e9 B9 k9 e89 ⊢
          refine ⟨_, rfl, b, _, 6, rfl, B9, by decide, by decide, by omega, fun r10 H10 a10 b10 k10 B10 => ?_⟩
          refine ⟨rfl, .inr ⟨_, rfl, ?_⟩⟩
          obtain ⟨m, hm, m0, m1⟩ : ∃ m : Int, (if decide (V.int r10 = V.int 0) = true then (1 : Int) else 0) = m ∧ 0 ≤ m ∧ m ≤ 1 := ⟨_, rfl, by split <;> decide, by split <;> decide⟩
          rw [hm]
          have e10 := k10 _ _ (fun z => lL (List.mem_singleton.mp z)) e9
          obtain ⟨most, hmost, mo1, mo2⟩ : ∃ most : Int, atI [V.int (1 + r7), .int (1 + r8)] m = some (.int most) ∧ 1 ≤ most ∧ most ≤ 40 := by
            have : m = 0 ∨ m = 1 := by omega
            rcases this with rfl | rfl
            · exact ⟨_, rfl, by omega, by omega⟩
            · exact ⟨_, rfl, by omega, by omega⟩
          refine ⟨L, _, m, .int most, rfl, rfl, SqL.of e10, hmost, ?_⟩
          have k410 := k9.trans k10
          have e10l := k10 _ _ lb' e89
          clear e9 e10 e89 e8 e6 e5 k9 k48 s9
          refine ⟨_, rfl, .inl ⟨rfl, _, SqL.of e10l⟩, _, rfl, by show 3 ≤ sizeLine; decide, fun L2 nL2 => ?_⟩
          have s11 := same_upd (o := .lst [V.str "ya", .str "yb", .str "yc"]) nL2
          have e11 : upd H10 L2 (.lst [V.str "ya", .str "yb", .str "yc"]) L2 = some (.lst [V.str "ya", .str "yb", .str "yc"]) := upd_same
          have lL2 := nb_of B10 nL2
          have B11 := B10.same s11
          have k11 : Kp [b] H4 (upd H10 L2 (.lst [V.str "ya", .str "yb", .str "yc"])) := kp_new k410 nL2
          have e11l := s11 _ _ e10l
          generalize upd H10 L2 (.lst [V.str "ya", .str "yb", .str "yc"]) = H11 at e11 B11 k11 e11l ⊢
          refine ⟨_, rfl, b, _, 3, rfl, B11, by decide, by decide, by omega, fun r12 H12 a12 b12 k12' B12 => ?_⟩
          have e12 := k12' _ _ (fun z => lL2 (List.mem_singleton.mp z)) e11
          obtain ⟨yd, hyd, ydo⟩ : ∃ yd : Str, atI [V.str "ya", .str "yb", .str "yc"] r12 = some (.str yd) ∧ PySem.PyData.strOk yd = true := by
            have : r12 = 0 ∨ r12 = 1 ∨ r12 = 2 := by omega
            rcases this with rfl | rfl | rfl
            · exact ⟨"ya", rfl, by decide +kernel⟩
            · exact ⟨"yb", rfl, by decide +kernel⟩
            · exact ⟨"yc", rfl, by decide +kernel⟩
          refine ⟨L2, _, r12, .str yd, rfl, rfl, SqL.of e12, hyd, ?_⟩
          have e12l := k12' _ _ lb' e11l
          refine ⟨_, rfl, _, rfl, b, _, W, rfl, B12, by omega, w1, w8, fun am ns H13 k13' B13 nam eam lns nns => ?_⟩
          have amb : am ∉ [b] := fun z => nb_of B12 nam (List.mem_singleton.mp z)
          have e13l := k13' _ _ lb' e12l
          have k413 := (k11.trans k12').trans k13'
          refine ⟨_, rfl, by show 4 ≤ sizeLine; decide, fun t nt => ?_⟩
          have s14 := same_upd (o := .tup [V.str z, .str yd, .ref am, .int most]) nt
          have e14 : upd H13 t (.tup [V.str z, .str yd, .ref am, .int most]) t = some (.tup [V.str z, .str yd, .ref am, .int most]) := upd_same
          have B14 := B13.same s14
          have k414 : Kp [b] H4 (upd H13 t (.tup [V.str z, .str yd, .ref am, .int most])) := kp_new k413 nt
          have e14l := s14 _ _ e13l
          have e14a := s14 _ _ eam
          generalize upd H13 t (.tup [V.str z, .str yd, .ref am, .int most]) = H14 at e14 B14 k414 e14l e14a ⊢
          refine ⟨l, us, .ref t, rfl, rfl, e14l, ?_, ?_⟩
          · rw [lus]; exact small63 (by omega)
          · have kt : KTu H4 (upd H14 l (.lst (us ++ [V.ref t]))) := fun x xs e => by
              rw [upd_ne (fun z => by rw [z, p3] at e; cases e)]
              exact box_kt p2 k414 x xs e
            have tl : t ≠ l := fun z => by rw [z, e14l] at e14; cases e14
            have al : am ≠ l := fun z => by rw [z, e14l] at e14a; cases e14a
            refine ⟨_, _, _, us ++ [V.ref t], ks ++ [⟨z, yd, ns, most⟩], rfl, kp_put (p1.trans k414) nl, ?_, upd_same, paired_snoc (p4.mono fun _ _ h => h.kt kt) ⟨t, am, rfl, by rw [upd_ne tl]; exact e14, by rw [upd_ne al]; exact e14a⟩, ⟨fun k hk => ?_, ?_⟩, by rw [List.length_append, p6]; rfl⟩
            · obtain ⟨xs, h1, h2⟩ := B14.le (c' := c + 2 + 80 * ((i + 1 : Nat) : Int)) (by omega)
              exact ⟨xs, by rw [upd_ne (fun z => lb z.symm)]; exact h1, h2⟩
            · rcases List.mem_append.mp hk with hk | hk
              · exact p5.each k hk
              · cases List.mem_singleton.mp hk
                exact ⟨⟨zok, zl⟩, ydo, lns, nns, mo1, mo2⟩
            · rw [List.map_append]
              refine List.nodup_append.mpr ⟨p5.nd, by simp, fun x hx v hv e9 => ?_⟩
              cases List.mem_singleton.mp hv
              exact zn (by rw [show x = z from e9] at hx; exact hx)
      · obtain ⟨y3, y4, y5, us, ks, rfl, p1, p2, p3, p4, p5, p6⟩ := p
        exact ⟨y3, y4, y5, us, ks, rfl, p1, p2.le (by omega), p3, p4, p5, by omega, by omega⟩
    · obtain ⟨y3, y4, y5, us, ks, rfl, p1, p2, p3, p4, p5, p6, p7⟩ := hm
      exact ⟨_, rfl, q l us ks _ p1 p2 nl p3 p4 p5 p6 p7⟩
end
end My
set_option maxHeartbeats 4000000
namespace My
open PySem PySem.Spec PyProof.Rows L2 GX GxR
abbrev s_scHou : Stmt := topS 37
abbrev n_scHou : List Str := ["_law_box_here", "_law_kinds_here", "_law_wares", "_law_rows", "_law_name_here", "_law_kind", "_law_row"]
theorem scHou : FnScope n_scHou ["_law_box_here", "_law_kinds_here", "_law_wares", "_law_rows"] (defScope s_scHou) := ⟨rfl, rfl, rfl, by decide +kernel, rfl, by decide +kernel, by decide +kernel⟩
/-- a row of the law's houses -/
def RowW (H : Hp) (v : V) (h : Hm) : Prop := ∃ t am : Addr, v = .ref t ∧ H t = some (.tup [.str h.name, .str h.yard, .ref am, optS h.kind, .str h.state]) ∧ H am = some (.tup (h.room.map V.int))
theorem RowW.kt {H H' : Hp} {v : V} {h : Hm} (kt : KTu H H') (r : RowW H v h) : RowW H' v h := by
  obtain ⟨t, am, h0, h1, h2⟩ := r
  exact ⟨t, am, h0, kt _ _ h1, kt _ _ h2⟩
/-- how many houses there are of a kind -/
def ofK (z : Str) (M : List Hm) : Nat := (M.filter fun h => decide (optS h.kind = V.str z)).length
theorem ofK_snoc {z : Str} {M : List Hm} {h : Hm} : ofK z (M ++ [h]) = ofK z M + if optS h.kind = V.str z then 1 else 0 := by
  unfold ofK
  rw [List.filter_append, List.length_append]
  by_cases c : optS h.kind = V.str z
  · rw [if_pos c]
    congr 1
    rw [List.filter_cons_of_pos (by exact decide_eq_true c)]
    rfl
  · rw [if_neg c]
    congr 1
    rw [List.filter_cons_of_neg (by rw [decide_eq_true_eq]; exact c)]
    rfl
theorem ofK_le {z : Str} {M : List Hm} : ofK z M ≤ M.length := List.length_filter_le _ _
/-- a new house's kind is one that there are too few of -/
def NewK (ks : List Kn) (M : List Hm) (y : Str) (room : List Int) : Option Str → Prop
  | none => True
  | some z => ∃ k ∈ ks, z = k.name ∧ y = k.yard ∧ room = k.room ∧ (ofK z M : Int) < k.most
def spWHou : Sp := fun vs H Q _ => ∃ (b lk lh : Addr) (c : Int) (W : Nat) (us ws : List V) (ks : List Kn) (M : List Hm), vs = [.ref b, .ref lk, .int (W : Int), .ref lh] ∧ BoxAt H b c ∧ c ≤ 100000 ∧ 1 ≤ W ∧ W ≤ 8 ∧
  H lk = some (.lst us) ∧ Paired (KndAt H) us ks ∧ KnsOk W ks ∧ 1 ≤ ks.length ∧ ks.length ≤ 7 ∧ H lh = some (.lst ws) ∧ Paired (RowW H) ws M ∧ M.length ≤ 16 ∧ lk ≠ b ∧ lh ≠ b ∧
  ∀ (t am : Addr) (z y : Str) (room : List Int) (kd : Option Str) (H' : Hp), Kp [b] H H' → BoxAt H' b (c + 100) → H' t = some (.tup [.str z, .str y, .ref am, optS kd]) → H' am = some (.tup (room.map V.int)) →
    PySem.PyData.strOk z = true → nm20 z → z ∉ M.map (·.name) → PySem.PyData.strOk y = true → room.length = W → (∀ n ∈ room, 0 ≤ n ∧ n ≤ 1000000000000) → NewK ks M y room kd → Q (.ref t) H'
theorem if_mid {R : Bool → Hp → Prop} {c : TT} {t u : TS} {D : Ends} {σ : L2.St} {H : Hp} (hR : ∀ b H1, R b H1 → if b = true then t D σ H1 else u D σ H1) (hc : ∀ Q, (∀ b H1, R b H1 → Q b H1) → c σ H Q) : tIfS c t u D σ H := hc _ hR
section
variable {P : Program} {w : World} {K : PySem.W.Frag} {mg : Str → Option Value} {base : Heap}
theorem ok_whou {f fT fN fA : Addr} {fd fdT fdN fdA : FuncData} {k : Nat} (F : Fun K "_law_house" "_law_house" s_scHou f fd) (X : Txt mg)
    (GT : FnOk P w K mg base CX0 k fT fdT ["_law_box_here", "_law_many"] spTakeW) (mT : mg "_law_take" = some (.ref fT)) (kT : PySem.W.keepIn K (.ref fT) = true) (bT : L2.Binds K fdT ["_law_box_here", "_law_many"] [])
    (GN : FnOk P w K mg base CX0 k fN fdN ["_law_box_here", "_law_used"] spWNam) (mN : mg "_law_name" = some (.ref fN)) (kN : PySem.W.keepIn K (.ref fN) = true) (bN : L2.Binds K fdN ["_law_box_here", "_law_used"] [])
    (GA : FnOk P w K mg base CX0 k fA fdA ["_law_box_here", "_law_wares"] spWAmt) (mA : mg "_law_amount" = some (.ref fA)) (kA : PySem.W.keepIn K (.ref fA) = true) (bA : L2.Binds K fdA ["_law_box_here", "_law_wares"] []) :
    FnOk P w K mg base CX0 (k + 1) f fd ["_law_box_here", "_law_kinds_here", "_law_wares", "_law_rows"] spWHou := by
  refine F.ok scHou (fun vs H Q E h => ?_) (fun cdv A outer s H vs Q E hr h => ?_)
  · obtain ⟨b, lk, lh, c, W, us, ws, ks, M, rfl, _⟩ := h
    rfl
  · obtain ⟨b, lk, lh, c, W, us, ws, ks, M, rfl, B, hc, w1, w8, hlk, pk, kok, k1, k7, hlh, pr, m16, nkb, nhb, q⟩ := h
    refine ⟨_, (pss_cons (ps_set (i := 4) scHou.nd rfl (.inl rfl) (pe_call GN hr (by rfl) mN kN bN .nil pass0 (pa_cons (pv 0) (pa_cons (pe_lc (own := [("_law_row", 6)]) (g := (gName 6)) (tt := tYes) rfl scHou.nd (pi_list (pv 3)) (blkOk_by (own := [("_law_row", 6)]) (N := n_scHou) (sc := defScope s_scHou) (by decide +kernel)) (fun _ _ _ _ _ => (pg_name (i := 6) scHou.nd rfl (.inl rfl))) (fun _ _ _ _ _ => pts_nil) (fun _ _ _ _ _ => (pe_ix (r := rIxT K) ix_tup (pv 6) pe_int (fun _ _ => rfl)))) pa_nil))))
(pss_cons (ps_set (i := 5) scHou.nd rfl (.inr rfl) (pe_ix ix_list (pv 1) (pe_call GT hr (by rfl) mT kT bT .nil pass0 (pa_cons (pv 0) (pa_cons (pe_callB call_len_seq (by rfl) X.len PySem.boot_len (pa_cons (pv 1) pa_nil)) pa_nil))) (fun _ _ => rfl)))
(C8.pss_cut (ps_if (PW.pt (pw_or (pt_cmpR op_eq (pe_call GT hr (by rfl) mT kT bT .nil pass0 (pa_cons (pv 0) (pa_cons pe_int pa_nil))) pe_int (nomark _)) (pw_or1 (pt_cmpR op_ge (pe_callB call_len_seq (by rfl) X.len PySem.boot_len (pa_cons (pe_lc (own := [("_law_row", 6)]) (g := (gName 6)) rfl scHou.nd (pi_list (pv 3)) (blkOk_by (own := [("_law_row", 6)]) (N := n_scHou) (sc := defScope s_scHou) (by decide +kernel)) (fun _ _ _ _ _ => (pg_name (i := 6) scHou.nd rfl (.inl rfl))) (fun _ _ _ _ _ => pts_one (pt_cmpR op_eq (pe_ix (r := rIxT K) ix_tup (pv 6) pe_int (fun _ _ => rfl)) (pe_ix (r := rIxT K) ix_tup (pv 5) pe_int (fun _ _ => rfl)) (nomark _))) (fun _ _ _ _ _ => (pv 6))) pa_nil)) (pe_ix ix_tup (pv 5) pe_int (fun _ _ => rfl)) (nomark _)))))
  (pss_one (ps_ret (pe_tup (pa_cons (pv 4) (pa_cons (pe_ix ix_list (pe_lst (pa_cons pe_str (pa_cons pe_str (pa_cons pe_str (pa_cons pe_str pa_nil))))) (pe_call GT hr (by rfl) mT kT bT .nil pass0 (pa_cons (pv 0) (pa_cons pe_int pa_nil))) (fun _ _ => rfl)) (pa_cons (pe_call GA hr (by rfl) mA kA bA .nil pass0 (pa_cons (pv 0) (pa_cons (pv 2) pa_nil))) (pa_cons pe_non pa_nil)))))))
  pss_nil)
(pss_one (ps_ret (pe_tup (pa_cons (pv 4) (pa_cons (pe_ix ix_tup (pv 5) pe_int (fun _ _ => rfl)) (pa_cons (pe_ix ix_tup (pv 5) pe_int (fun _ _ => rfl)) (pa_cons (pe_ix ix_tup (pv 5) pe_int (fun _ _ => rfl)) pa_nil)))))))))), ?_⟩
    have lus : us.length = ks.length := pk.length
    have lws : ws.length = M.length := pr.length
    have nkb' : lk ∉ [b] := fun z => nkb (List.mem_singleton.mp z)
    have nhb' : lh ∉ [b] := fun z => nhb (List.mem_singleton.mp z)
    refine ⟨_, rfl, _, rfl, lh, rfl, ⟨_, SqL.of hlh⟩, fun D nD => ?_⟩
    refine lc_list (K := K) (xs := ws) (fun j H' => Same H H' ∧ H' D = some (.lst (((M.take j).map (·.name)).map V.str)) ) ⟨same_upd nD, upd_same⟩ (fun j H' _ v => SqL.of (v.1 _ _ hlh)) (fun j x H5 hx v => ?_) (fun H5 v => ?_)
    · obtain ⟨v1, v2⟩ := v
      obtain ⟨h0, hh0, t, am, rfl, ht, ham⟩ := paired_get pr hx
      have li : j < M.length := (List.getElem?_eq_some_iff.mp hh0).1
      have tk : M.take (j + 1) = M.take j ++ [h0] := by rw [List.take_add_one, hh0]; rfl
      refine ⟨rfl, ?_⟩
      refine ⟨_, rfl, t, _, 0, .str h0.name, rfl, rfl, SqT.of (v1 _ _ ht), rfl, ?_⟩
      refine ⟨_, v2, by rw [List.length_map, List.length_map, List.length_take]; exact small63 (by omega), same_putA v1 nD, ?_⟩
      rw [upd_same, tk, List.map_append, List.map_append]
      rfl
    obtain ⟨v1, v2⟩ := v
    rw [lws, List.take_length] at v2
    refine ⟨b, D, _, M.map (·.name), rfl, B.same v1, by omega, v2, by rw [List.length_map]; omega, fun z H6 k6 B6 zok zl zn => ?_⟩
    have k06 : Kp [b] H H6 := (Same.kp _ v1).trans k6
    clear v1 v2 k6
    refine ⟨_, rfl, _, rfl, _, rfl, lk, _, rfl, .inl (SqL.of (k06 _ _ nkb' hlk)), b, _, _, rfl, B6, ?_, ?_, by omega, fun r7 H7 a7 b7 k7' B7 => ?_⟩
    · rw [lus]; omega
    · rw [lus]; omega
    rw [lus] at b7
    have k07 := k06.trans k7'
    obtain ⟨rn, rfl⟩ : ∃ rn : Nat, r7 = rn := ⟨r7.toNat, by omega⟩
    obtain ⟨u, hu⟩ : ∃ u, us[rn]? = some u := ⟨us[rn]'(by omega), List.getElem?_eq_getElem _⟩
    obtain ⟨k0, hk0, t0, am0, rfl, ht0, ham0⟩ := paired_get pk hu
    have k0m : k0 ∈ ks := List.mem_of_getElem? hk0
    have kg := kok.each k0 k0m
    refine ⟨lk, _, rn, .ref t0, rfl, rfl, SqL.of (k07 _ _ nkb' hlk), atI_nat hu, ?_⟩
    have T0 := box_kt B k07 _ _ ht0
    have A0 := box_kt B k07 _ _ ham0
    refine ⟨fun σ H' => σ = [some (.ref b), some (.ref lk), some (.int (W : Int)), some (.ref lh), some (.str z), some (.ref t0), none] ∧ Kp [b] H H' ∧ BoxAt H' b (c + 40) ∧ (ofK k0.name M : Int) < k0.most, ?_, fun σ H' hm => ?_⟩
    · refine if_mid (R := fun bv H' => Kp [b] H H' ∧ BoxAt H' b (c + 40) ∧ (bv = false → (ofK k0.name M : Int) < k0.most)) (fun bv H8 r => ?_) (fun Q0 hQ => ?_)
      · obtain ⟨k08, B8, lt⟩ := r
        cases bv with
        | true =>
          rw [if_pos rfl]
          refine ⟨_, rfl, by show 4 ≤ sizeLine; decide, fun L2 nL2 => ?_⟩
          have s11 := same_upd (o := .lst [V.str "ya", .str "yb", .str "yc", .str "yd"]) nL2
          have e11 : upd H8 L2 (.lst [V.str "ya", .str "yb", .str "yc", .str "yd"]) L2 = some (.lst [V.str "ya", .str "yb", .str "yc", .str "yd"]) := upd_same
          have lL2 := nb_of B8 nL2
          have B11 := B8.same s11
          have k11 : Kp [b] H (upd H8 L2 (.lst [V.str "ya", .str "yb", .str "yc", .str "yd"])) := kp_new k08 nL2
          generalize upd H8 L2 (.lst [V.str "ya", .str "yb", .str "yc", .str "yd"]) = H11 at e11 B11 k11 ⊢
          refine ⟨_, rfl, b, _, 4, rfl, B11, by decide, by decide, by omega, fun r12 H12 a12 b12 k12' B12 => ?_⟩
          have e12 := k12' _ _ (fun z => lL2 (List.mem_singleton.mp z)) e11
          obtain ⟨yd, hyd, ydo⟩ : ∃ yd : Str, atI [V.str "ya", .str "yb", .str "yc", .str "yd"] r12 = some (.str yd) ∧ PySem.PyData.strOk yd = true := by
            have : r12 = 0 ∨ r12 = 1 ∨ r12 = 2 ∨ r12 = 3 := by omega
            rcases this with rfl | rfl | rfl | rfl
            · exact ⟨"ya", rfl, by decide +kernel⟩
            · exact ⟨"yb", rfl, by decide +kernel⟩
            · exact ⟨"yc", rfl, by decide +kernel⟩
            · exact ⟨"yd", rfl, by decide +kernel⟩
          refine ⟨L2, _, r12, .str yd, rfl, rfl, SqL.of e12, hyd, ?_⟩
          refine ⟨_, rfl, _, rfl, b, _, W, rfl, B12, by omega, w1, w8, fun am ns H13 k13' B13 nam eam lns nns => ?_⟩
          have k13 := (k11.trans k12').trans k13'
          refine ⟨by show 4 ≤ sizeLine; decide, fun t nt => ?_⟩
          have s14 := same_upd (o := .tup [V.str z, .str yd, .ref am, .non]) nt
          exact q t am z yd ns none _ (kp_new k13 nt) ((B13.same s14).le (by omega)) upd_same (s14 _ _ eam) zok zl zn ydo lns nns trivial
        | false =>
          rw [if_neg (by decide)]
          exact ⟨rfl, k08, B8, lt rfl⟩
      · refine ⟨_, rfl, b, _, 3, rfl, B7, by decide, by decide, by omega, fun r8 H8 a8 b8 k8 B8 => ?_⟩
        have k08 := k07.trans k8
        refine ⟨rfl, _, rfl, ite2 (fun e => hQ true _ ⟨k08, B8.le (by omega), fun z => by cases z⟩) (fun e => ?_)⟩
        refine ⟨_, rfl, lh, rfl, ⟨_, SqL.of (k08 _ _ nhb' hlh)⟩, fun D8 nD8 => ?_⟩
        refine lc_list (K := K) (xs := ws) (fun j H' => Same H8 H' ∧ ∃ vs : List V, H' D8 = some (.lst vs) ∧ vs.length = ofK k0.name (M.take j)) ⟨same_upd nD8, [], upd_same, rfl⟩ (fun j H' _ v => SqL.of (v.1 _ _ (k08 _ _ nhb' hlh))) (fun j x H5 hx v => ?_) (fun H5 v => ?_)
        · obtain ⟨v1, vs, v2, v3⟩ := v
          obtain ⟨h0, hh0, t, am, rfl, ht, ham⟩ := paired_get pr hx
          have tk : M.take (j + 1) = M.take j ++ [h0] := by rw [List.take_add_one, hh0]; rfl
          have t5 := v1 _ _ (box_kt B k08 _ _ ht)
          have k5 := v1 _ _ (box_kt B k08 _ _ ht0)
          have l16 : vs.length ≤ 16 := by rw [v3]; exact Nat.le_trans ofK_le (by rw [List.length_take]; omega)
          rw [tk, ofK_snoc]
          refine ⟨rfl, ?_⟩
          refine ⟨_, rfl, t, _, 3, optS h0.kind, rfl, rfl, SqT.of t5, rfl, _, rfl, t0, _, 0, .str k0.name, rfl, rfl, SqT.of k5, rfl, by cases h0.kind <;> rfl, _, rfl, ite2 (fun e1 => ?_) (fun e1 => ?_)⟩
          · refine ⟨_, rfl, _, v2, small63 (by omega), same_putA v1 nD8, _, upd_same, ?_⟩
            rw [if_pos (of_decide_eq_true e1), List.length_append, v3]
            rfl
          · refine ⟨v1, vs, v2, ?_⟩
            rw [if_neg (fun z => e1 (decide_eq_true z)), v3]
            rfl
        · obtain ⟨v1, vs, v2, v3⟩ := v
          rw [lws, List.take_length] at v3
          refine ⟨D8, _, rfl, .inl (SqL.of v2), ?_⟩
          refine ⟨_, rfl, t0, _, 3, .int k0.most, rfl, rfl, SqT.of (v1 _ _ (box_kt B k08 _ _ ht0)), rfl, ?_⟩
          refine ⟨_, _, rfl, rfl, _, rfl, hQ _ _ ⟨k08.trans (Same.kp _ v1), (B8.same v1).le (by omega), fun z => ?_⟩⟩
          have := of_decide_eq_false z
          rw [v3] at this
          omega
    · obtain ⟨rfl, k09, B9, lt⟩ := hm
      have T9 := box_kt B k09 _ _ ht0
      have A9 := box_kt B k09 _ _ ham0
      refine ⟨_, rfl, _, rfl, t0, _, 1, .str k0.yard, rfl, rfl, SqT.of T9, rfl, ?_⟩
      refine ⟨_, rfl, t0, _, 2, .ref am0, rfl, rfl, SqT.of T9, rfl, ?_⟩
      refine ⟨_, rfl, t0, _, 0, .str k0.name, rfl, rfl, SqT.of T9, rfl, ?_⟩
      refine ⟨by show 4 ≤ sizeLine; decide, fun t nt => ?_⟩
      have s14 := same_upd (o := .tup [V.str z, .str k0.yard, .ref am0, .str k0.name]) nt
      exact q t am0 z k0.yard k0.room (some k0.name) _ (kp_new k09 nt) ((B9.same s14).le (by omega)) upd_same (s14 _ _ A9) zok zl zn kg.yd kg.rl kg.rb ⟨k0, k0m, rfl, rfl, rfl, lt⟩
end
end My
set_option maxHeartbeats 1000000
/-! what is left over, with the list that is kept for it: an old one or a new one -/
namespace My
open PySem PySem.W PySem.Spec PyProof.Rows L2 GX GxR
/-- what is left of a house in a stretch -/
def leftOf (b e : Int) (h : Hm) (ns : List Int) : Prop := ∃ ks, Srt h.bs ks ∧ ns = (leastLeft h.room h.bs b e (ks.zip (ks.drop 1))).getD h.room
def SiAt (b e : Int) (H : Hp) (t : Addr) (p : Hp2) : Prop := ∃ q ns, H t = some (.tup [.str p.2.name, .str p.2.yard, .ref q]) ∧ H q = some (.tup (ns.map V.int)) ∧ leftOf b e p.2 ns
theorem SiAt.kt {b e : Int} {H H' : Hp} {t : Addr} {p : Hp2} (k : KTu H H') (h : SiAt b e H t p) : SiAt b e H' t p := by
  obtain ⟨q, ns, h1, h2, h3⟩ := h
  exact ⟨q, ns, k _ _ h1, k _ _ h2, h3⟩
end My
set_option maxHeartbeats 1000000
/-! an estate and the lists of rows 41 to 46, apart -/
namespace My
open PySem PySem.W PySem.Spec PyProof.Rows L2 GX GxR
/-- what is kept of what is left: none, an old one, or a new one -/
def LvK (H : Hp) (L L1 : List Hp2) : Prop := ∀ q ∈ L1, q.1.lv = .non ∨ (∃ p ∈ L, q.1.lv = p.1.lv) ∨ ∃ l, q.1.lv = .ref l ∧ H l = none
def AfterL (CE CH CB : Addr) (Ts : List Addr) (H : Hp) (e edx hd pd : Addr) (L : List Hp2) (M' : List Hm) (H' : Hp) : Prop :=
  ∃ pps' L1, Kp (foot e hd pd L ++ Ts) H H' ∧ Tabs Ts H' ∧ EsAt CE CH CB H' e edx hd pd pps' L1 ∧ L1.map (·.2) = M' ∧ (∀ x ∈ foot e hd pd L1, x ∈ foot e hd pd L ∨ H x = none) ∧ LvK H L L1
def spBookL (CE CH CB TK NH TM : Addr) (Ts : List Addr) : Sp := fun vs H Q E => ∃ (e edx hd pd gt pt wt : Addr) (pps : List (Key × V)) (L : List Hp2) (z gd hw : Str) (rk mn ln bg : Int) (want : List Int) (pl : List (Str × Int)), vs = [.ref e, .ref gt, .ref pt, .int bg] ∧
  EsAt CE CH CB H e edx hd pd pps L ∧ Tabs Ts H ∧ H gt = some (.tup [.str z, .str gd, .int rk, .int mn, .ref wt, .str hw, .int ln]) ∧ H wt = some (.tup (want.map V.int)) ∧ PairsAt H pt pl ∧ Bkbl (L.map (·.2)) z bg (bg + ln) want pl ∧
  (Booked (L.map (·.2)) z → E (.ref TK) none H) ∧
  (¬ Booked (L.map (·.2)) z → (∀ h ∈ pl.map (·.1), h ∉ names L → ∀ H', Same H H' → E (.ref NH) none H') ∧
    ∀ ps : List (Str × Int), ps.Perm pl → sortedS (ps.map (·.1)) = true → (∀ h ∈ pl.map (·.1), h ∈ names L) →
      (∀ H', (∀ q ∈ ps, ∀ p ∈ L, p.2.name = q.1 → OverP p.2.room p.2.bs (xOf z bg (bg + ln) want q.2) none) → AfterL CE CH CB Ts H e edx hd pd L ((L.map (·.2)).map (bookH z bg (bg + ln) want pl)) H' → Q .non H') ∧
      (∀ H' (i : Nat) q t dE, ps[i]? = some q → (∀ (j : Nat) q', j < i → ps[j]? = some q' → ∀ p ∈ L, p.2.name = q'.1 → OverP p.2.room p.2.bs (xOf z bg (bg + ln) want q'.2) none) → (∀ p ∈ L, p.2.name = q.1 → OverP p.2.room p.2.bs (xOf z bg (bg + ln) want q.2) (some t)) →
        Fw Ts H H' → H dE = none → H' dE = some (.xd [("time", .int t)]) → E (.ref TM) (some dE) H'))
structure S41 (CE CH CB : Addr) (Ts : List Addr) (H1 H : Hp) (e edx hd pd D : Addr) (pps : List (Key × V)) (L : List Hp2) (ML : List Kd2) : Prop where
  fw : Fw Ts H1 H
  es : EsAt CE CH CB H e edx hd pd pps L
  kd : KdAt H D ML
  sep : ∀ x ∈ foot e hd pd L, x ∉ kfoot D ML
  fr : ∀ x ∈ foot e hd pd L, H1 x = none
  kr : ∀ x ∈ kfoot D ML, H1 x = none
  lv : ∀ p ∈ L, ∀ q ∈ ML, p.1.lv ≠ .ref q.1.n
section
variable {CE CH CB e edx hd pd D b : Addr} {H1 H H' : Hp} {pps : List (Key × V)} {L L1 : List Hp2} {ML : List Kd2} {Ts S : List Addr} {M' : List Hm} {c : Int}
/-- an estate as a list is written that is not among what it keeps -/
theorem EsAt.kpn {n : Addr} {us : List V} (B : EsAt CE CH CB H e edx hd pd pps L) (k : Kp [n] H H') (hn : H n = some (.lst us)) (nlv : ∀ p ∈ L, p.1.lv ≠ .ref n) : EsAt CE CH CB H' e edx hd pd pps L := by
  have off : ∀ {x : Addr} {o : HO}, H x = some o → (∀ us, o ≠ .lst us) → x ∉ [n] := fun {x o} hx no z => by
    rw [List.mem_singleton.mp z, hn] at hx
    exact no _ (Option.some.inj hx).symm
  have kt : KTu H H' := fun q xs hq => k _ _ (off hq fun _ z => by cases z) hq
  refine ⟨k _ _ (off B.obj fun _ z => by cases z) B.obj, k _ _ (off B.hs fun _ z => by cases z) B.hs, k _ _ (off B.pl fun _ z => by cases z) B.pl, fun p hp => ?_, B.plk, fun z v hv => ?_, B.sa, B.sb, B.sd, B.good⟩
  · have g := B.each p hp
    refine ⟨k _ _ (off g.obj fun _ z => by cases z) g.obj, g.book.kp k kt (off g.book.obj fun _ z => by cases z) (off g.book.en fun _ z => by cases z), ?_⟩
    rcases g.lf with z | ⟨l, ls, ks, h1, h2, h3, h4⟩
    · exact .inl z
    · exact .inr ⟨l, ls, ks, h1, k _ _ (fun z => nlv p hp (by rw [h1, List.mem_singleton.mp z])) h2, h3, h4.mono fun _ _ x => x.kt kt⟩
  · obtain ⟨t, ps, h1, h2, h3⟩ := B.pls z v hv
    exact ⟨t, ps, h1, h2.kq2 k kt (fun x hx o u hu => by rw [List.mem_singleton.mp hx, hn] at hu; cases hu), h3⟩
theorem S41.same (s : Same H H') (x : S41 CE CH CB Ts H1 H e edx hd pd D pps L ML) : S41 CE CH CB Ts H1 H' e edx hd pd D pps L ML := ⟨x.fw.then s, x.es.same s, x.kd.same s, x.sep, x.fr, x.kr, x.lv⟩
theorem S41.box (tH : Tabs Ts H1) (x : S41 CE CH CB Ts H1 H e edx hd pd D pps L ML) (B : BoxAt H b c) (k : Kp [b] H H') (fb : H1 b = none) : S41 CE CH CB Ts H1 H' e edx hd pd D pps L ML := by
  obtain ⟨xs, h1, h2⟩ := _root_.id B
  have nb : ∀ y ∈ [b], ∀ o, H y = some o → o = .lst xs := fun y hy o ho => by
    rw [List.mem_singleton.mp hy, h1] at ho
    exact (Option.some.inj ho).symm
  refine ⟨⟨fun y o ny hy => k _ _ (fun z => ?_) (x.fw.kp y o ny hy), fun T hT => ?_⟩, x.es.kpx k (fun y hy z => ?_) (fun y hy o ho => ?_), x.kd.box B k, x.sep, x.fr, x.kr, x.lv⟩
  · rw [List.mem_singleton.mp z, fb] at hy
    cases hy
  · obtain ⟨ps, g1, g2⟩ := x.fw.tabs T hT
    refine ⟨ps, k _ _ (fun z => ?_) g1, g2⟩
    have := nb T z _ g1
    cases this
  · rcases x.es.kind z with ⟨C, dx, fs, g⟩ | ⟨kv, g⟩
    · have := nb y hy _ g
      cases this
    · have := nb y hy _ g
      cases this
  · rw [nb y hy o ho]
    exact ⟨(fun xs z => by cases z), (fun q u z => by cases z), fun us z => bx_ref h2 (by injection z)⟩
/-- what stands at a place of the keeping -/
theorem S41.has (x : S41 CE CH CB Ts H1 H e edx hd pd D pps L ML) {y : Addr} (hy : y ∈ kfoot D ML) : H y ≠ none := fun z => by
  rcases x.kd.kind hy with ⟨kv, g⟩ | ⟨_, _, _, _, g⟩ | ⟨us, g⟩ <;> · rw [z] at g; cases g
theorem S41.told2 {pps' : List (Key × V)} (tH : Tabs Ts H1) (x : S41 CE CH CB Ts H1 H e edx hd pd D pps L ML) (k : Kp (foot e hd pd L ++ Ts) H H') (t : Tabs Ts H') (B1 : EsAt CE CH CB H' e edx hd pd pps' L1) (f1 : ∀ x ∈ foot e hd pd L1, x ∈ foot e hd pd L ∨ H x = none) (lk : LvK H L L1) : S41 CE CH CB Ts H1 H' e edx hd pd D pps' L1 ML := by
  have kind : ∀ y ∈ foot e hd pd L ++ Ts, ∀ o, H y = some o → (∀ xs, o ≠ .tup xs) ∧ ∀ q u, o ≠ .frz q u := fun y hy o ho => by
    rcases List.mem_append.mp hy with hy | hy
    · rcases x.es.kind hy with ⟨C, dx, fs, g⟩ | ⟨kv, g⟩
      · rw [g] at ho
        cases ho
        exact ⟨(fun xs z => by cases z), fun q u z => by cases z⟩
      · rw [g] at ho
        cases ho
        exact ⟨(fun xs z => by cases z), fun q u z => by cases z⟩
    · obtain ⟨ps, g, _⟩ := x.fw.tabs y hy
      rw [g] at ho
      cases ho
      exact ⟨(fun xs z => by cases z), fun q u z => by cases z⟩
  have kt : KTu H H' := fun q xs hq => k _ _ (fun z => (kind q z _ hq).1 xs rfl) hq
  refine ⟨⟨fun y o ny hy => k _ _ (fun z => ?_) (x.fw.kp y o ny hy), t⟩, B1, x.kd.kpx k kt (fun y hy z => ?_), fun y hy z => ?_, fun y hy => ?_, x.kr, fun q hq p hp z => ?_⟩
  · rcases List.mem_append.mp z with z | z
    · rw [x.fr y z] at hy
      cases hy
    · exact ny z
  · rcases List.mem_append.mp hy with hy | hy
    · exact x.sep y hy z
    · obtain ⟨ps, g2, _⟩ := x.fw.tabs y hy
      rcases x.kd.kind z with ⟨kv, g⟩ | ⟨_, _, _, _, g⟩ | ⟨us, g⟩ <;> · rw [g] at g2; cases g2
  · rcases f1 y hy with h | h
    · exact x.sep y h z
    · exact x.has z h
  · rcases f1 y hy with h | h
    · exact x.fr y h
    · exact x.fw.free tH h
  · rcases lk q hq with h | ⟨p0, hp0, h⟩ | ⟨l, h, hl⟩
    · rw [h] at z; cases z
    · exact x.lv p0 hp0 p hp (by rw [← h, z])
    · rw [h] at z
      injection z with z
      exact x.has (kfoot_mem.mpr (.inr ⟨p, hp, .inr z⟩)) hl
theorem S41.told (tH : Tabs Ts H1) (x : S41 CE CH CB Ts H1 H e edx hd pd D pps L ML) (a : AfterL CE CH CB Ts H e edx hd pd L M' H') : ∃ pps' L', S41 CE CH CB Ts H1 H' e edx hd pd D pps' L' ML ∧ L'.map (·.2) = M' := by
  obtain ⟨pps', L1, k, t, B1, e1, f1, lk⟩ := a
  exact ⟨pps', L1, x.told2 tH k t B1 f1 lk, e1⟩
/-- the tables were written -/
theorem S41.tabsW (x : S41 CE CH CB Ts H1 H e edx hd pd D pps L ML) (f : Fw Ts H H') : S41 CE CH CB Ts H1 H' e edx hd pd D pps L ML := by
  have nt : ∀ y ∈ Ts, ∀ o, H y = some o → (∀ xs, o ≠ .tup xs) ∧ (∀ q u, o ≠ .frz q u) ∧ ∀ us : List Addr, o ≠ .lst (us.map V.ref) := fun y hy o ho => by
    obtain ⟨ps, g, _⟩ := x.fw.tabs y hy
    rw [g] at ho
    cases ho
    exact ⟨(fun xs z => by cases z), (fun q u z => by cases z), fun us z => by cases z⟩
  refine ⟨x.fw.trans f, x.es.kpx f.kp (fun y hy z => ?_) nt, x.kd.kpx f.kp (fun q xs hq => f.kp _ _ (fun z => (nt q z _ hq).1 xs rfl) hq) (fun y hy z => ?_), x.sep, x.fr, x.kr, x.lv⟩
  · obtain ⟨ps, g, _⟩ := x.fw.tabs y hy
    rcases x.es.kind z with ⟨C, dx, fs, g2⟩ | ⟨kv, g2⟩ <;> · rw [g] at g2; cases g2
  · obtain ⟨ps, g, _⟩ := x.fw.tabs y hy
    rcases x.kd.kind z with ⟨kv, g2⟩ | ⟨_, _, _, _, g2⟩ | ⟨us, g2⟩ <;> · rw [g] at g2; cases g2
theorem fw_one {y : Addr} {o0 : HO} (f : Fw Ts H1 H) (k : Kp [y] H H') (fy : H1 y = none) (hy : H y = some o0) (n : ∀ ps, o0 ≠ .tbl ps) : Fw Ts H1 H' := by
  refine ⟨fun x o nx hx => k _ _ (fun z => ?_) (f.kp x o nx hx), fun T hT => ?_⟩
  · rw [List.mem_singleton.mp z, fy] at hx
    cases hx
  · obtain ⟨ps, g1, g2⟩ := f.tabs T hT
    refine ⟨ps, k _ _ (fun z => ?_) g1, g2⟩
    rw [List.mem_singleton.mp z, hy] at g1
    exact n _ (Option.some.inj g1)
theorem kfoot_eq {D : Addr} {ML : List Kd2} {g : Hm → Hm} : kfoot D (ML.map fun q => (q.1, g q.2)) = kfoot D ML := by
  unfold kfoot
  rw [List.map_map, List.map_map]
  rfl
/-- an entry more in a house of the keeping -/
theorem S41.put (x : S41 CE CH CB Ts H1 H e edx hd pd D pps L ML) {p : Kd2} (hp : p ∈ ML) {us : List Addr} {u : Addr} {em : Em} (h : H p.1.n = some (.lst (us.map V.ref))) (hu : KeAt H u em.x) :
    S41 CE CH CB Ts H1 (upd H p.1.n (.lst (us.map V.ref ++ [.ref u]))) e edx hd pd D pps L (ML.map fun q => (q.1, onH p.2.name (fun h => { h with es := h.es ++ [em] }) q.2)) := by
  have k1 : Kp [p.1.n] H (upd H p.1.n (.lst (us.map V.ref ++ [.ref u]))) := kp_upd (List.mem_singleton.mpr rfl)
  have inK : p.1.n ∈ kfoot D ML := kfoot_mem.mpr (.inr ⟨p, hp, .inr rfl⟩)
  refine ⟨fw_one x.fw k1 (x.kr _ inK) h (fun _ z => by cases z), x.es.kpn k1 h (fun q hq => x.lv q hq p hp), x.kd.put hp h hu, ?_, x.fr, ?_, fun q hq p2 hp2 => ?_⟩
  · rw [kfoot_eq]
    exact x.sep
  · rw [kfoot_eq]
    exact x.kr
  · obtain ⟨p3, hp3, rfl⟩ := List.mem_map.mp hp2
    exact x.lv q hq p3 hp3
/-- a house's state in the keeping -/
theorem S41.setS (x : S41 CE CH CB Ts H1 H e edx hd pd D pps L ML) {p : Kd2} (hp : p ∈ ML) {st : Str} :
    S41 CE CH CB Ts H1 (upd H p.1.l (.lst [.str p.2.yard, .ref p.1.r, .str st, .ref p.1.n])) e edx hd pd D pps L (ML.map fun q => (q.1, setH p.2.name st q.2)) := by
  have ho := (x.kd.each p hp).obj
  have k1 : Kp [p.1.l] H (upd H p.1.l (.lst [.str p.2.yard, .ref p.1.r, .str st, .ref p.1.n])) := kp_upd (List.mem_singleton.mpr rfl)
  have inK : p.1.l ∈ kfoot D ML := kfoot_mem.mpr (.inr ⟨p, hp, .inl rfl⟩)
  refine ⟨fw_one x.fw k1 (x.kr _ inK) ho (fun _ z => by cases z), x.es.kpn k1 ho (fun q hq z => ?_), x.kd.setS hp, ?_, x.fr, ?_, fun q hq p2 hp2 => ?_⟩
  · rcases (x.es.each q hq).lf with g | ⟨l, ls, ks, g1, g2, _⟩
    · rw [g] at z; cases z
    · rw [g1] at z
      injection z with z
      rw [z, ho] at g2
      cases ls with
      | nil => cases g2
      | cons a ls =>
        rw [List.map_cons] at g2
        injection g2 with g2
        injection g2 with g2
        injection g2 with g2 _
        cases g2
  · rw [kfoot_eq]
    exact x.sep
  · rw [kfoot_eq]
    exact x.kr
  · obtain ⟨p3, hp3, rfl⟩ := List.mem_map.mp hp2
    exact x.lv q hq p3 hp3
/-- a house more in the keeping -/
theorem S41.add (x : S41 CE CH CB Ts H1 H e edx hd pd D pps L ML) {y : KAd} {h : Hm} (hz : h.name ∉ ML.map (·.2.name)) (few : ML.length < 60) (X : KhAt H y h) (nl : y.l ∉ foot e hd pd L ∧ y.l ∉ kfoot D ML ∧ H1 y.l = none) (nn : y.n ∉ foot e hd pd L ∧ y.n ∉ kfoot D ML ∧ H1 y.n = none) (nv : ∀ p ∈ L, p.1.lv ≠ .ref y.n) :
    S41 CE CH CB Ts H1 (upd H D (.dK (putK (kkv ML) (Sum.inr h.name) (.ref y.l)))) e edx hd pd D pps L (ML ++ [(y, h)]) := by
  have k1 : Kp [D] H (upd H D (.dK (putK (kkv ML) (Sum.inr h.name) (.ref y.l)))) := kp_upd (List.mem_singleton.mpr rfl)
  have inK : D ∈ kfoot D ML := kfoot_mem.mpr (.inl rfl)
  have ft : ∀ z, z ∈ kfoot D (ML ++ [(y, h)]) → z ∈ kfoot D ML ∨ z = y.l ∨ z = y.n := fun z hz => by
    rcases kfoot_mem.mp hz with h1 | ⟨p, hp, h1⟩
    · exact .inl (kfoot_mem.mpr (.inl h1))
    · rcases List.mem_append.mp hp with hp | hp
      · exact .inl (kfoot_mem.mpr (.inr ⟨p, hp, h1⟩))
      · rw [List.mem_singleton.mp hp] at h1
        exact .inr h1
  refine ⟨fw_one x.fw k1 (x.kr _ inK) x.kd.obj (fun _ z => by cases z), x.es.kpx k1 (fun q hq z => ?_) (fun q hq o ho => ?_), x.kd.add hz few X (fun p hp z => nl.2.1 (kfoot_mem.mpr (.inr ⟨p, hp, .inl z⟩))) (fun p hp z => nn.2.1 (kfoot_mem.mpr (.inr ⟨p, hp, .inr z⟩))) x.kd.obj, fun q hq z => ?_, x.fr, fun q hq => ?_, fun q hq p hp => ?_⟩
  · rw [List.mem_singleton.mp hq] at z
    exact x.sep _ z inK
  · rw [List.mem_singleton.mp hq, x.kd.obj] at ho
    cases ho
    exact ⟨(fun xs z => by cases z), (fun q u z => by cases z), fun us z => by cases z⟩
  · rcases ft q z with z | z | z
    · exact x.sep q hq z
    · exact nl.1 (by rw [← z]; exact hq)
    · exact nn.1 (by rw [← z]; exact hq)
  · rcases ft q hq with z | z | z
    · exact x.kr q z
    · rw [z]; exact nl.2.2
    · rw [z]; exact nn.2.2
  · rcases List.mem_append.mp hp with hp | hp
    · exact x.lv q hq p hp
    · rw [List.mem_singleton.mp hp]
      exact nv q hq
theorem hfl_book {h h' : Hm} {b b' : Addr} (e : hfl h b = hfl h' b') : b = b' := by
  unfold hfl at e
  injection e with _ e
  injection e with _ e
  injection e with _ e
  injection e with e _
  injection e with _ e
  injection e
theorem flds_lv {m d m' d' : Addr} {v v' : V} (e : flds m d v = flds m' d' v') : v = v' := by
  unfold flds at e
  injection e with _ e
  injection e with _ e
  injection e with e _
  injection e
/-- what is kept is read off the heap -/
theorem lvk_of {pps' : List (Key × V)} (B1 : EsAt CE CH CB H' e edx hd pd pps' L1) (h : ∀ q ∈ L1, ∃ b' lv', (∃ C dx h, H' q.1.a = some (.ins C dx (hfl h b'))) ∧ (∃ C dx m d, H' b' = some (.ins C dx (flds m d lv'))) ∧ (lv' = .non ∨ ∃ p ∈ L, lv' = p.1.lv)) : LvK H L L1 := fun q hq => by
  obtain ⟨b', lv', ⟨C, dx, h0, g1⟩, ⟨C2, dx2, m, d, g2⟩, g3⟩ := h q hq
  have a1 := (B1.each q hq).obj
  rw [g1] at a1
  injection a1 with a1
  injection a1 with _ _ a1
  have eb := hfl_book a1
  have a2 := (B1.each q hq).book.obj
  rw [← eb, g2] at a2
  injection a2 with a2
  injection a2 with _ _ a2
  have ev := flds_lv a2
  rw [← ev]
  rcases g3 with g | g
  · exact .inl g
  · exact .inr (.inl g)
theorem hkv_mem {q : Hp2} (hq : q ∈ L1) : ((Sum.inr q.2.name : Key), V.ref q.1.a) ∈ hkv L1 := List.mem_map.mpr ⟨q, hq, rfl⟩
theorem EsAt.addL (B : EsAt CE CH CB H e edx hd pd pps L) {z y : Str} {kd : Option Str} {room : List Int} {a dx b bdx d m : Addr} (hz : z ∉ names L) (lz : z.length ≤ 100) (few : L.length < 60) (r1 : 1 ≤ room.length) (r20 : room.length ≤ 20) (nn : ∀ n ∈ room, 0 ≤ n)
    (hm : H m = some (.tup (room.map V.int))) (na : H a = Option.none) (nb : H b = Option.none) (nd : H d = Option.none) (k : Kp [hd] H H') (ha : H' a = some (.ins CH dx (hfl ⟨z, y, kd, Str.ofString "open", [], []⟩ b))) (hb : H' b = some (.ins CB bdx (flds m d .non))) (hdd : H' d = some (.dK []))
    (hh : H' hd = some (.dK (putK (hkv L) (Sum.inr z) (.ref a)))) : AfterL CE CH CB [] H e edx hd pd L (L.map (·.2) ++ [⟨z, y, kd, Str.ofString "open", room, []⟩]) H' := by
  obtain ⟨pps', L1, h1, h2, B1, h4, h5⟩ := B.add hz lz few r1 r20 nn hm na nb nd k ha hb hdd hh
  refine ⟨pps', L1, h1, h2, B1, h4, h5, lvk_of B1 fun q hq => ?_⟩
  have g := hkv_mem hq
  have e1 := B1.hs
  rw [hh] at e1
  injection e1 with e1
  injection e1 with e1
  rw [← e1, putK_app fun p hp e2 => hz (by
      unfold hkv at hp
      obtain ⟨q, hq, rfl⟩ := List.mem_map.mp hp
      exact List.mem_map.mpr ⟨q, hq, Sum.inr.inj e2⟩)] at g
  have off : ∀ {x : Addr} {o : HO}, H x = some o → (∀ kv, o ≠ .dK kv) → H' x = some o := fun {x o} hx no => k _ _ (fun y => by
    rw [List.mem_singleton.mp y, B.hs] at hx
    exact no _ (Option.some.inj hx).symm) hx
  rcases List.mem_append.mp g with g | g
  · obtain ⟨p, hp, e2⟩ := List.mem_map.mp g
    injection e2 with _ e2
    injection e2 with e2
    refine ⟨p.1.b, p.1.lv, ⟨CH, p.1.dx, p.2, ?_⟩, ⟨CB, p.1.bdx, p.1.m, p.1.d, off (B.each p hp).book.obj fun _ z => by cases z⟩, .inr ⟨p, hp, rfl⟩⟩
    rw [← e2]
    exact off (B.each p hp).obj fun _ z => by cases z
  · have e2 := List.mem_singleton.mp g
    injection e2 with _ e2
    injection e2 with e2
    exact ⟨b, .non, ⟨CH, dx, _, by rw [e2]; exact ha⟩, ⟨CB, bdx, m, d, hb⟩, .inl rfl⟩
theorem EsAt.setSL (B : EsAt CE CH CB H e edx hd pd pps L) {p : Hp2} (hp : p ∈ L) {st : Str} : AfterL CE CH CB [] H e edx hd pd L ((L.map (·.2)).map (setH p.2.name st)) (upd H p.1.a (.ins CH p.1.dx (hfl { p.2 with state := st } p.1.b))) := by
  obtain ⟨pps', L1, h1, h2, B1, h4, h5⟩ := B.setS hp (st := st)
  refine ⟨pps', L1, h1, h2, B1, h4, h5, lvk_of B1 fun q hq => ?_⟩
  have oa := (B.each p hp).obj
  have g := hkv_mem hq
  have off : ∀ {x : Addr} {o : HO}, H x = some o → (∀ C dx h b, o ≠ .ins C dx (hfl h b)) → upd H p.1.a (.ins CH p.1.dx (hfl { p.2 with state := st } p.1.b)) x = some o := fun {x o} hx no => by
    rw [upd_ne (fun y => by rw [y, oa] at hx; exact no _ _ _ _ (Option.some.inj hx).symm)]
    exact hx
  have e1 := B1.hs
  rw [off B.hs fun _ _ _ _ z => by cases z] at e1
  injection e1 with e1
  injection e1 with e1
  rw [← e1] at g
  obtain ⟨p2, hp2, e2⟩ := List.mem_map.mp g
  injection e2 with _ e2
  injection e2 with e2
  refine ⟨p2.1.b, p2.1.lv, ?_, ⟨CB, p2.1.bdx, p2.1.m, p2.1.d, off (B.each p2 hp2).book.obj fun C dx h b z => flds_hfl (congrArg some z)⟩, .inr ⟨p2, hp2, rfl⟩⟩
  rw [← e2]
  by_cases same : p2.1.a = p.1.a
  · rw [same, upd_same]
    have : p2 = p := nodup_inj B.sa p2 hp2 p hp same
    rw [this]
    exact ⟨_, _, _, rfl⟩
  · rw [upd_ne same]
    exact ⟨_, _, _, (B.each p2 hp2).obj⟩
end
end My
set_option maxHeartbeats 1000000
/-! a gang that is placed is booked: the program's call, the law's own lists -/
namespace My
open PySem PySem.W PySem.Spec PyProof.Rows L2 GX GxR
section
variable {CE CH CB TK NH TM e edx hd pd gt pt wt D : Addr} {H1 H : Hp} {pps : List (Key × V)} {L : List Hp2} {ML : List Kd2} {Ts : List Addr} {hn gn : List Str} {W : Nat} {z gd hw : Str} {rk mn ln bg : Int} {want : List Int} {out : List (Str × Int)}
theorem book_call {Q : VK} {E : XK} (B : EsAt CE CH CB H e edx hd pd pps L) (tH : Tabs Ts H) (N : Nms hn gn W) (G : MGood hn gn W (L.map (·.2))) (ok : EDeedOk hn gn W (.book z gd hw rk mn ln want out bg)) (nb : ¬ Booked (L.map (·.2)) z)
    (fits : ∀ q ∈ out, ∃ h ∈ L.map (·.2), h.name = q.1 ∧ IsFirst h.room h.bs (want.map (· * q.2)) bg (bg + ln) none)
    (g1 : H gt = some (.tup [.str z, .str gd, .int rk, .int mn, .ref wt, .str hw, .int ln])) (g2 : H wt = some (.tup (want.map V.int))) (g3 : PairsAt H pt out)
    (q : ∀ H', AfterL CE CH CB Ts H e edx hd pd L ((L.map (·.2)).map (bookH z bg (bg + ln) want out)) H' → Q .non H') : spBookL CE CH CB TK NH TM Ts [.ref e, .ref gt, .ref pt, .int bg] H Q E := by
  have bkb := MGood.bkbl N G ok
  obtain ⟨k1, k2, k3, k4, k5, k6, k7, k8, k9, k10⟩ := _root_.id ok
  have all : ∀ r ∈ out, ∃ p ∈ L, p.2.name = r.1 ∧ IsFirst p.2.room p.2.bs (want.map (· * r.2)) bg (bg + ln) none := fun r hr => by
    obtain ⟨h, h1, h2, h3⟩ := fits r hr
    obtain ⟨p, hp, rfl⟩ := List.mem_map.mp h1
    exact ⟨p, hp, h2, h3⟩
  refine ⟨e, edx, hd, pd, gt, pt, wt, pps, L, z, gd, hw, rk, mn, ln, bg, want, out, rfl, B, tH, g1, g2, g3, bkb, fun hb => absurd hb nb, fun _ => ⟨fun h hh nh => ?_, fun ps pp so al => ⟨fun H' _ aft => q H' aft, fun H' i q0 t dE hq0 before this fw ndE edE => ?_⟩⟩⟩
  · obtain ⟨r, hr, rfl⟩ := List.mem_map.mp hh
    obtain ⟨p, hp, h2, _⟩ := all r hr
    exact absurd (List.mem_map.mpr ⟨p, hp, h2⟩) nh
  · obtain ⟨p, hp, h2, h3⟩ := all q0 (pp.mem_iff.mp (List.mem_of_getElem? hq0))
    have hpM : p.2 ∈ L.map (·.2) := List.mem_map.mpr ⟨p, hp, rfl⟩
    have h4 := over_new (G.each p.2 hpM) (k2.trans (G.room p.2 hpM).symm) (by omega) (not_key nb hpM) (this p hp h2)
    have := isFirst_uniq h3 h4
    cases this
end
end My
set_option maxHeartbeats 1000000
/-! what stands as the law's world is built -/
namespace My
open PySem PySem.W PySem.Spec PyProof.Rows L2 GX GxR
section
variable {CE CH CB e edx hd pd D b y : Addr} {H1 H H' : Hp} {pps : List (Key × V)} {L : List Hp2} {ML : List Kd2} {Ts : List Addr} {M' : List Hm} {c : Int} {hn gn : List Str} {W : Nat}
/-- an estate's deed, beside all else -/
theorem S41.deed (tH : Tabs Ts H1) (x : S41 CE CH CB Ts H1 H e edx hd pd D pps L ML) (a : AfterL CE CH CB Ts H e edx hd pd L M' H') : ∃ pps' L', S41 CE CH CB Ts H1 H' e edx hd pd D pps' L' ML ∧ L'.map (·.2) = M' ∧ KTu H H' ∧ (∀ y o, H y = some o → y ∉ foot e hd pd L → y ∉ Ts → H' y = some o) ∧ ∀ y, y ∉ foot e hd pd L → H y ≠ none → y ∉ foot e hd pd L' := by
  obtain ⟨pps', L1, k, t, B1, e1, f1, lk⟩ := a
  refine ⟨pps', L1, x.told2 tH k t B1 f1 lk, e1, fun q xs hq => k _ _ (fun z => ?_) hq, fun y o hy n1 n2 => k _ _ (fun z => (List.mem_append.mp z).elim n1 n2) hy, fun y hy hn z => (f1 y z).elim hy hn⟩
  rcases List.mem_append.mp z with z | z
  · rcases x.es.kind z with ⟨C, dx, fs, g⟩ | ⟨kv, g⟩ <;> · rw [hq] at g; cases g
  · obtain ⟨ps, g, _⟩ := x.fw.tabs q z
    rw [hq] at g
    cases g
theorem AfterL.tabs {M' : List Hm} (B : EsAt CE CH CB H e edx hd pd pps L) (t : Tabs Ts H) (a : AfterL CE CH CB [] H e edx hd pd L M' H') : AfterL CE CH CB Ts H e edx hd pd L M' H' := by
  obtain ⟨pps', L1, k, _, B1, e1, f1, lk⟩ := a
  refine ⟨pps', L1, k.mono fun x hx => List.mem_append_left _ (by simpa using hx), fun T hT => ?_, B1, e1, f1, lk⟩
  obtain ⟨ps, g1, g2⟩ := t T hT
  refine ⟨ps, k _ _ (fun z => ?_) g1, g2⟩
  rw [List.append_nil] at z
  rcases B.kind z with ⟨C, dx, fs, g⟩ | ⟨kv, g⟩ <;> · rw [g1] at g; cases g
theorem S41.new (f : Fw Ts H1 H) (o : H e = some (.ins CE edx (efl hd pd))) (hh : H hd = some (.dK [])) (hp : H pd = some (.dK [])) (hD : H D = some (.dK [])) (ne : hd ≠ pd) (n1 : hd ≠ D) (n2 : pd ≠ D) (f1 : H1 e = none) (f2 : H1 hd = none) (f3 : H1 pd = none) (f4 : H1 D = none) : S41 CE CH CB Ts H1 H e edx hd pd D [] [] [] := by
  refine ⟨f, EsAt.nothing o hh hp ne, ⟨hD, (fun p hp => by cases hp), .nil, .nil, .nil, Nat.zero_le _⟩, fun x hx z => ?_, fun x hx => ?_, fun x hx => ?_, fun p hp => by cases hp⟩
  · rcases kfoot_mem.mp z with rfl | ⟨p, hp, _⟩
    · rcases foot_mem.mp hx with rfl | rfl | rfl | ⟨p, hp, _⟩
      · rw [o] at hD; cases hD
      · exact n1 rfl
      · exact n2 rfl
      · cases hp
    · cases hp
  · rcases foot_mem.mp hx with rfl | rfl | rfl | ⟨p, hp, _⟩
    · exact f1
    · exact f2
    · exact f3
    · cases hp
  · rcases kfoot_mem.mp hx with rfl | ⟨p, hp, _⟩
    · exact f4
    · cases hp
/-- what is new stands nowhere -/
theorem S41.fresh (x : S41 CE CH CB Ts H1 H e edx hd pd D pps L ML) (hy : H y = none) : y ∉ foot e hd pd L ∧ y ∉ kfoot D ML ∧ ∀ p ∈ L, p.1.lv ≠ .ref y := by
  refine ⟨fun z => ?_, fun z => x.has z hy, fun p hp z => ?_⟩
  · rcases x.es.kind z with ⟨C, dx, fs, g⟩ | ⟨kv, g⟩ <;> · rw [hy] at g; cases g
  · rcases (x.es.each p hp).lf with g | ⟨l, ls, ks, g1, g2, _⟩
    · rw [g] at z; cases z
    · rw [g1] at z
      injection z with z
      rw [z, hy] at g2
      cases g2
/-- the names that are drawn, as a list -/
theorem cutV_take (xs : List V) (n : Nat) : cutV xs none (some (n : Int)) = xs.take n := by
  unfold cutV
  show (List.take (HT.sIx xs.length xs.length (some (n : Int)) - 0) xs) = _
  by_cases h : xs.length ≤ n
  · rw [sIx_nat, List.take_of_length_le (by omega), List.take_of_length_le h]
  · rw [sIx_nat]
    congr 1
    omega
/-- bounds that an estate of the law's keeps -/
def YR (M : List Hm) : Prop := ∀ h ∈ M, (∀ n ∈ h.room, n ≤ 1000000000000) ∧ PySem.PyData.strOk h.yard = true ∧ PySem.PyData.strOk h.state = true
theorem YR.map {M : List Hm} {g : Hm → Hm} (h1 : ∀ h, (g h).room = h.room) (h2 : ∀ h, (g h).yard = h.yard) (h3 : ∀ h, (g h).state = h.state) (y : YR M) : YR (M.map g) := fun h hh => by
  obtain ⟨h0, m0, rfl⟩ := List.mem_map.mp hh
  rw [h1, h2, h3]
  exact y h0 m0
theorem YR.book {M : List Hm} {z : Str} {b e : Int} {want : List Int} {pl : List (Str × Int)} (y : YR M) : YR (M.map (bookH z b e want pl)) := y.map (fun h => by unfold bookH; split <;> rfl) (fun h => by unfold bookH; split <;> rfl) (fun h => by unfold bookH; split <;> rfl)
theorem YR.state {M : List Hm} {z st : Str} (ok : PySem.PyData.strOk st = true) (y : YR M) : YR (M.map (setH z st)) := fun h hh => by
  obtain ⟨h0, m0, rfl⟩ := List.mem_map.mp hh
  unfold setH
  split
  · exact ⟨(y h0 m0).1, (y h0 m0).2.1, ok⟩
  · exact y h0 m0
theorem bookH_nms {M : List Hm} {z : Str} {b e : Int} {want : List Int} {pl : List (Str × Int)} : (M.map (bookH z b e want pl)).map (·.name) = M.map (·.name) := by
  rw [List.map_map]
  exact List.map_congr_left fun h _ => book_name ..
theorem booked_sub {M : List Hm} {z y : Str} {b e : Int} {want : List Int} {pl : List (Str × Int)} (h : Booked (M.map (bookH z b e want pl)) y) : Booked M y ∨ y = z := by
  obtain ⟨hm', h1, em, h2, h3⟩ := h
  obtain ⟨hm, h4, rfl⟩ := List.mem_map.mp h1
  unfold bookH at h2
  split at h2
  · rcases List.mem_append.mp h2 with h2 | h2
    · exact .inl ⟨hm, h4, em, h2, h3⟩
    · rw [List.mem_singleton.mp h2] at h3
      exact .inr h3.symm
  · exact .inl ⟨hm, h4, em, h2, h3⟩
end
end My
set_option maxHeartbeats 2000000
/-! the law's world, a dict, beside the estate -/
namespace My
open PySem PySem.W PySem.Spec PyProof.Rows L2 GX GxR
theorem EntW.kt {H H' : Hp} {v : V} {x : Bw} (kt : KTu H H') (h : EntW H v x) : EntW H' v x := by
  obtain ⟨t, am, h0, h1, h2⟩ := h
  exact ⟨t, am, h0, kt _ _ h1, kt _ _ h2⟩
def bea (x : Bw) : Int × Int × List Int := (x.b, x.e, x.am)
theorem net_bea {w : Nat} {rs ss : List Bw} (h : rs.map bea = ss.map bea) (t : Int) : netB w rs t = netB w ss t := by
  have key : ∀ (us : List Bw) (j : Nat), ((us.filter (liveAt t)).map fun x => x.am.getD j 0) = ((us.map bea).filter fun y => decide (y.1 ≤ t ∧ t < y.2.1)).map fun y => y.2.2.getD j 0 := fun us j => by
    rw [List.filter_map, List.map_map]
    rfl
  unfold netB
  refine List.map_congr_left fun j _ => ?_
  rw [key rs j, key ss j, h]
theorem site_bea {h : Hm} {rs : List Bw} {b e : Int} (eq : h.bs.map bea = rs.map bea) : siteL b e h = leftTs h.room rs (tsW rs b e) := by
  have e1 : beginsIn b e h = tsW rs b e := by
    unfold beginsIn tsW
    have : (h.es.map fun em => em.x.b) = rs.map (·.b) := by
      have h2 := congrArg (List.map (·.1)) eq
      rw [List.map_map, List.map_map] at h2
      unfold Hm.bs at h2
      rw [List.map_map] at h2
      exact h2
    rw [this]
  have e2 : ∀ t, netB h.room.length h.bs t = netB h.room.length rs t := net_bea eq
  unfold siteL
  rw [e1]
  unfold leftTs
  congr 1
  funext acc t
  rw [e2]
structure S47 (CE CH CB : Addr) (Ts : List Addr) (H1 H : Hp) (e edx hd pd D lh le lk : Addr) (pps : List (Key × V)) (L : List Hp2) (W : Nat) (ws : List V) (M : List Hm) (us : List V) (E : List Bw) (kus : List V) (ks : List Kn) : Prop where
  fw : Fw Ts H1 H
  es : EsAt CE CH CB H e edx hd pd pps L
  fr : ∀ x ∈ foot e hd pd L, H1 x = none
  lv : ∀ p ∈ L, p.1.lv ≠ .ref lh ∧ p.1.lv ≠ .ref le ∧ p.1.lv ≠ .ref lk
  ob : H D = some (.dK (wdkv W lh le lk))
  nf : D ∉ foot e hd pd L
  hh : H lh = some (.lst ws)
  he : H le = some (.lst us)
  hk : H lk = some (.lst kus)
  rows : Paired (RowW H) ws M
  ents : Paired (EntW H) us E
  knds : Paired (KndAt H) kus ks
  s1 : lh ≠ le
  s2 : lh ≠ lk
  s3 : le ≠ lk
  n1 : H1 D = none
  n2 : H1 lh = none
  n3 : H1 le = none
  n4 : H1 lk = none
section
variable {CE CH CB e edx hd pd D lh le lk b : Addr} {H1 H H' : Hp} {pps : List (Key × V)} {L L1 : List Hp2} {Ts : List Addr} {M' M : List Hm} {c : Int} {W : Nat} {ws us kus : List V} {E : List Bw} {ks : List Kn}
theorem S47.wv (x : S47 CE CH CB Ts H1 H e edx hd pd D lh le lk pps L W ws M us E kus ks) : WVw H D W lh le lk us E := ⟨x.ob, x.he, x.ents⟩
theorem S47.same (s : Same H H') (x : S47 CE CH CB Ts H1 H e edx hd pd D lh le lk pps L W ws M us E kus ks) : S47 CE CH CB Ts H1 H' e edx hd pd D lh le lk pps L W ws M us E kus ks :=
  ⟨x.fw.then s, x.es.same s, x.fr, x.lv, s _ _ x.ob, x.nf, s _ _ x.hh, s _ _ x.he, s _ _ x.hk, x.rows.mono fun _ _ r => r.kt (Same.kt s), x.ents.mono fun _ _ r => r.same s, x.knds.mono fun _ _ r => r.kt (Same.kt s), x.s1, x.s2, x.s3, x.n1, x.n2, x.n3, x.n4⟩
theorem S47.box (tH : Tabs Ts H1) (x : S47 CE CH CB Ts H1 H e edx hd pd D lh le lk pps L W ws M us E kus ks) (B : BoxAt H b c) (k : Kp [b] H H') (fb : H1 b = none) (nb : b ≠ lh ∧ b ≠ le ∧ b ≠ lk) : S47 CE CH CB Ts H1 H' e edx hd pd D lh le lk pps L W ws M us E kus ks := by
  have kt := box_kt B k
  obtain ⟨xs, h1, h2⟩ := _root_.id B
  have nb' : ∀ y ∈ [b], ∀ o, H y = some o → o = .lst xs := fun y hy o ho => by
    rw [List.mem_singleton.mp hy, h1] at ho
    exact (Option.some.inj ho).symm
  refine ⟨⟨fun y o ny hy => k _ _ (fun z => ?_) (x.fw.kp y o ny hy), fun T hT => ?_⟩, x.es.kpx k (fun y hy z => ?_) (fun y hy o ho => ?_), x.fr, x.lv, k _ _ (fun z => by cases nb' D z _ x.ob) x.ob, x.nf, k _ _ (fun z => nb.1 (List.mem_singleton.mp z).symm) x.hh, k _ _ (fun z => nb.2.1 (List.mem_singleton.mp z).symm) x.he, k _ _ (fun z => nb.2.2 (List.mem_singleton.mp z).symm) x.hk, x.rows.mono fun _ _ r => r.kt kt, x.ents.mono fun _ _ r => r.kt kt, x.knds.mono fun _ _ r => r.kt kt, x.s1, x.s2, x.s3, x.n1, x.n2, x.n3, x.n4⟩
  · rw [List.mem_singleton.mp z, fb] at hy
    cases hy
  · obtain ⟨ps, g1, g2⟩ := x.fw.tabs T hT
    refine ⟨ps, k _ _ (fun z => ?_) g1, g2⟩
    have := nb' T z _ g1
    cases this
  · rcases x.es.kind z with ⟨C, dx, fs, g⟩ | ⟨kv, g⟩
    · have := nb' y hy _ g
      cases this
    · have := nb' y hy _ g
      cases this
  · rw [nb' y hy o ho]
    exact ⟨(fun xs z => by cases z), (fun q u z => by cases z), fun us z => bx_ref h2 (by injection z)⟩
/-- the estate was told -/
theorem S47.deed (tH : Tabs Ts H1) (x : S47 CE CH CB Ts H1 H e edx hd pd D lh le lk pps L W ws M us E kus ks) (a : AfterL CE CH CB Ts H e edx hd pd L M' H') : ∃ pps' L', S47 CE CH CB Ts H1 H' e edx hd pd D lh le lk pps' L' W ws M us E kus ks ∧ L'.map (·.2) = M' ∧ KTu H H' ∧ ∀ y xs, H y = some (.lst xs) → H' y = some (.lst xs) := by
  obtain ⟨pps', L1, k, t, B1, e1, f1, lk'⟩ := a
  have kind : ∀ y ∈ foot e hd pd L ++ Ts, ∀ o, H y = some o → (∀ xs, o ≠ .tup xs) ∧ (∀ xs, o ≠ .lst xs) := fun y hy o ho => by
    rcases List.mem_append.mp hy with hy | hy
    · rcases x.es.kind hy with ⟨C, dx, fs, g⟩ | ⟨kv, g⟩
      · rw [g] at ho
        cases ho
        exact ⟨(fun xs z => by cases z), fun q z => by cases z⟩
      · rw [g] at ho
        cases ho
        exact ⟨(fun xs z => by cases z), fun q z => by cases z⟩
    · obtain ⟨ps, g, _⟩ := x.fw.tabs y hy
      rw [g] at ho
      cases ho
      exact ⟨(fun xs z => by cases z), fun q z => by cases z⟩
  have kt : KTu H H' := fun q xs hq => k _ _ (fun z => (kind q z _ hq).1 xs rfl) hq
  have kl : ∀ y xs, H y = some (.lst xs) → H' y = some (.lst xs) := fun q xs hq => k _ _ (fun z => (kind q z _ hq).2 xs rfl) hq
  have nD : D ∉ foot e hd pd L ++ Ts := fun z => by
    rcases List.mem_append.mp z with z | z
    · exact x.nf z
    · obtain ⟨ps, g, _⟩ := x.fw.tabs D z
      rw [x.ob] at g
      cases g
  refine ⟨pps', L1, ⟨⟨fun y o ny hy => k _ _ (fun z => ?_) (x.fw.kp y o ny hy), t⟩, B1, fun y hy => ?_, fun q hq => ?_, k _ _ nD x.ob, fun z => ?_, kl _ _ x.hh, kl _ _ x.he, kl _ _ x.hk, x.rows.mono fun _ _ r => r.kt kt, x.ents.mono fun _ _ r => r.kt kt, x.knds.mono fun _ _ r => r.kt kt, x.s1, x.s2, x.s3, x.n1, x.n2, x.n3, x.n4⟩, e1, kt, kl⟩
  · rcases List.mem_append.mp z with z | z
    · rw [x.fr y z] at hy
      cases hy
    · exact ny z
  · rcases f1 y hy with h | h
    · exact x.fr y h
    · exact x.fw.free tH h
  · have off : ∀ {l : Addr} {xs : List V}, H l = some (.lst xs) → (∀ p ∈ L, p.1.lv ≠ .ref l) → q.1.lv ≠ .ref l := fun {l xs} hl nl z => by
      rcases lk' q hq with h | ⟨p0, hp0, h⟩ | ⟨l2, h, hl2⟩
      · rw [h] at z; cases z
      · exact nl p0 hp0 (by rw [← h, z])
      · rw [h] at z
        injection z with z
        rw [z, hl] at hl2
        cases hl2
    exact ⟨off x.hh fun p hp => (x.lv p hp).1, off x.he fun p hp => (x.lv p hp).2.1, off x.hk fun p hp => (x.lv p hp).2.2⟩
  · rcases f1 D z with h | h
    · exact x.nf h
    · rw [x.ob] at h; cases h
theorem lstTu {y : Addr} {xs ys : List V} (h : H y = some (.lst xs)) : KTu H (upd H y (.lst ys)) := fun q zs hq => by
  rw [upd_ne (fun z => by rw [z, h] at hq; cases hq)]
  exact hq
/-- a list of the world is written -/
theorem S47.wr {y : Addr} {xs ys : List V} (x : S47 CE CH CB Ts H1 H e edx hd pd D lh le lk pps L W ws M us E kus ks) (hy : H y = some (.lst xs)) (fy : H1 y = none) (nv : ∀ p ∈ L, p.1.lv ≠ .ref y) : Fw Ts H1 (upd H y (.lst ys)) ∧ EsAt CE CH CB (upd H y (.lst ys)) e edx hd pd pps L ∧ upd H y (.lst ys) D = some (.dK (wdkv W lh le lk)) := by
  have k1 : Kp [y] H (upd H y (.lst ys)) := kp_upd (List.mem_singleton.mpr rfl)
  exact ⟨fw_one x.fw k1 fy hy (fun _ z => by cases z), x.es.kpn k1 hy nv, by rw [upd_ne (fun z => by rw [← z, x.ob] at hy; cases hy)]; exact x.ob⟩
/-- a row more -/
theorem S47.row {v : V} {h : Hm} (x : S47 CE CH CB Ts H1 H e edx hd pd D lh le lk pps L W ws M us E kus ks) (hv : RowW H v h) : S47 CE CH CB Ts H1 (upd H lh (.lst (ws ++ [v]))) e edx hd pd D lh le lk pps L W (ws ++ [v]) (M ++ [h]) us E kus ks := by
  obtain ⟨f, B, o⟩ := x.wr (ys := ws ++ [v]) x.hh x.n2 fun p hp => (x.lv p hp).1
  have kt : KTu H (upd H lh (.lst (ws ++ [v]))) := lstTu x.hh
  exact ⟨f, B, x.fr, x.lv, o, x.nf, upd_same, by rw [upd_ne x.s1.symm]; exact x.he, by rw [upd_ne x.s2.symm]; exact x.hk, paired_snoc (x.rows.mono fun _ _ r => r.kt kt) (hv.kt kt), x.ents.mono fun _ _ r => r.kt kt, x.knds.mono fun _ _ r => r.kt kt, x.s1, x.s2, x.s3, x.n1, x.n2, x.n3, x.n4⟩
/-- an entry more -/
theorem S47.ent {v : V} {h : Bw} (x : S47 CE CH CB Ts H1 H e edx hd pd D lh le lk pps L W ws M us E kus ks) (hv : EntW H v h) : S47 CE CH CB Ts H1 (upd H le (.lst (us ++ [v]))) e edx hd pd D lh le lk pps L W ws M (us ++ [v]) (E ++ [h]) kus ks := by
  obtain ⟨f, B, o⟩ := x.wr (ys := us ++ [v]) x.he x.n3 fun p hp => (x.lv p hp).2.1
  have kt : KTu H (upd H le (.lst (us ++ [v]))) := lstTu x.he
  exact ⟨f, B, x.fr, x.lv, o, x.nf, by rw [upd_ne x.s1]; exact x.hh, upd_same, by rw [upd_ne x.s3.symm]; exact x.hk, x.rows.mono fun _ _ r => r.kt kt, paired_snoc (x.ents.mono fun _ _ r => r.kt kt) (hv.kt kt), x.knds.mono fun _ _ r => r.kt kt, x.s1, x.s2, x.s3, x.n1, x.n2, x.n3, x.n4⟩
theorem S47.rowsTo {M2 : List Hm} (x : S47 CE CH CB Ts H1 H e edx hd pd D lh le lk pps L W ws M us E kus ks) (r : Paired (RowW H) ws M2) : S47 CE CH CB Ts H1 H e edx hd pd D lh le lk pps L W ws M2 us E kus ks := { x with rows := r }
/-- rows tell no bookings -/
theorem rows_book {z : Str} {bg en : Int} {want : List Int} {pl : List (Str × Int)} : ∀ {ws : List V} {M : List Hm}, Paired (RowW H) ws M → Paired (RowW H) ws (M.map (bookH z bg en want pl))
  | _, _, .nil => .nil
  | _, _, .cons r rs => .cons (by
      obtain ⟨t, am, h0, h1, h2⟩ := r
      refine ⟨t, am, h0, ?_, ?_⟩ <;> unfold bookH <;> split <;> first | exact h1 | exact h2) (rows_book rs)
end
end My
namespace My
open PySem PySem.Spec PyProof.Rows L2 GX GxR
abbrev s_scEOf : Stmt := methS 24 13
abbrev n_scEOf : List Str := ["self", "key"]
theorem scEOf : FnScope n_scEOf ["self", "key"] (defScope s_scEOf) := ⟨rfl, rfl, rfl, by decide +kernel, rfl, by decide +kernel, by decide +kernel⟩
abbrev s_scKeep : Stmt := methS 24 14
abbrev n_scKeep : List Str := ["self", "entry", "key", "others", "time", "row"]
theorem scKeep : FnScope n_scKeep ["self", "entry"] (defScope s_scKeep) := ⟨rfl, rfl, rfl, by decide +kernel, rfl, by decide +kernel, by decide +kernel⟩
abbrev s_scPut : Stmt := methS 24 1
abbrev n_scPut : List Str := ["self", "key", "begin", "end", "amount"]
theorem scPut : FnScope n_scPut ["self", "key", "begin", "end", "amount"] (defScope s_scPut) := ⟨rfl, rfl, rfl, by decide +kernel, rfl, by decide +kernel, by decide +kernel⟩
abbrev s_scInit : Stmt := methS 24 0
abbrev n_scInit : List Str := ["self", "room"]
theorem scInit : FnScope n_scInit ["self", "room"] (defScope s_scInit) := ⟨rfl, rfl, rfl, by decide +kernel, rfl, by decide +kernel, by decide +kernel⟩
section
variable {P : Program} {w : World} {K : PySem.W.Frag} {mg : Str → Option Value} {base : Heap} {C : Addr}
theorem ok_eof {f N : Addr} {fd : FuncData} {k : Nat} (F : Fun K "entry_of" "Book.entry_of" s_scEOf f fd) (c : BCls K C) (xNoKey : ExcP K mg "NoKey" N) : FnOk P w K mg base (L2.CX P w) (k + 1) f fd ["self", "key"] (spEOf C N) := by
  refine F.okX scEOf (fun vs H Q E h => ?_) (fun cdv A outer s H vs Q E hr h => ?_)
  · obtain ⟨a, dx, m, d, lv, ps, room, rs, z, rfl, _⟩ := h
    rfl
  · obtain ⟨a, dx, m, d, lv, ps, room, rs, z, rfl, B, hz, q, qe⟩ := h
    refine ⟨_, (C8.pss_cut (ps_if (pt_cmp (pc_dnotin (hu_of hr) (pv 1) (pe_fld (pv 0) (by rfl))))
        (pss_one (ps_raise rfl (takes_of rfl rfl rfl rfl) (SkE.pmk_own1 PySem.F.excBase_ValueError xNoKey.x xNoKey.g xNoKey.k (raises_own xNoKey.b xNoKey.t) rfl (pe_joined (PJ.cons pe_str (PJ.cons (pe_fmt (pv 1)) PJ.nil))))))
        pss_nil)
      (pss_one (ps_ret (pe_dget (hu_of hr) (pe_fld (pv 0) (by rfl)) (pv 1) (fun _ _ => rfl))))), ?_⟩
    refine ⟨fun σ H' => σ = [some (.ref a), some (.str z)] ∧ H' = H ∧ ∃ v, valV ps (Sum.inr z) = some v, ?_, fun σ H' hm => ?_⟩
    · refine ⟨_, rfl, _, rfl, a, C, dx, _, .ref d, rfl, B.obj, c.cls, c.entries, rfl, d, valV ps (Sum.inr z), rfl, .inl ⟨ps, Sum.inr z, Rd.of B.en, rfl, rfl⟩, _, rfl, ite2 (fun e => ?_) (fun e => ?_)⟩
      · cases ho : valV ps (Sum.inr z) with
        | some v => rw [ho] at e; cases e
        | none =>
          refine ⟨_, rfl, by decide +kernel, _, rfl, .inl ⟨z, rfl, ?_, _, rfl, ?_, qe (B.none ho)⟩⟩
          · exact Nat.le_trans hz (by decide)
          · rw [Str.length_append]
            exact Nat.le_trans (Nat.add_le_add_left hz _) (by decide +kernel)
      · cases ho : valV ps (Sum.inr z) with
        | some v => exact ⟨rfl, rfl, v, rfl⟩
        | none => rw [ho] at e; exact absurd rfl e
    · obtain ⟨rfl, rfl, v, hv⟩ := hm
      obtain ⟨r, x, h1, h2, h3, h4⟩ := B.get (B.some hv)
      exact ⟨_, rfl, a, C, dx, _, .ref d, rfl, B.obj, c.cls, c.entries, rfl, _, rfl, d, .ref r, rfl, dgetR (Rd.of B.en) h1, q r x h1 h2 h3 h4⟩
theorem ok_keep {f fO TM fI : Addr} {fd fdO fdI : FuncData} {k : Nat} {Ts : List Addr} (F : Fun K "keep_entry" "Book.keep_entry" s_scKeep f fd) (c : BCls K C) (xTooMuch : ExcT P w K mg base k TM fI fdI)
    (GO : FnOk P w K mg base CX0 (k + 1) fO fdO ["room", "rows"] (spOver K Ts)) (mO : mg "first_over" = some (.ref fO)) (kO : PySem.W.keepIn K (.ref fO) = true) (bO : L2.Binds K fdO ["room", "rows"] []) :
    FnOk P w K mg base (L2.CX P w) (k + 1 + 1) f fd ["self", "entry"] (spKeep K Ts C TM) := by
  refine F.okX scKeep (fun vs H Q E h => ?_) (fun cdv A outer s H vs Q E hr h => ?_)
  · obtain ⟨a, dx, m, d, lv, ps, room, rs, r, x, rfl, _⟩ := h
    rfl
  · obtain ⟨a, dx, m, d, lv, ps, room, rs, r, x, rfl, B, bx, kl, okW, few, okP, nn, bnd, tH, q, qe⟩ := h
    refine ⟨_, (pss_cons (ps_set (i := 2) scKeep.nd rfl (.inr rfl) (pe_ix ix_tup (pv 1) pe_int (fun _ _ => rfl)))
      (pss_cons (ps_lock (ps_setLc (i := 3) (own := [("row", 5)]) (g := (gName 5)) rfl scKeep.nd rfl rfl (sw_true rfl rfl rfl (by decide +kernel)) (pi_values (pe_fld (pv 0) (by rfl))) (blkOk_by (own := [("row", 5)]) (N := n_scKeep) (sc := defScope s_scKeep) (by decide +kernel)) (fun _ _ _ _ _ => (pg_name (i := 5) scKeep.nd rfl (.inl rfl))) (fun _ _ _ _ _ => pts_one (pt_cmpR op_ne (pe_ix (r := rIxT K) ix_tup (pv 5) pe_int (fun _ _ => rfl)) (pv 2) (nomark _))) (fun _ _ _ _ _ => (pv 5))))
      (pss_cons (ps_set (i := 4) scKeep.nd rfl (.inl rfl) (pe_call GO hr (by rfl) mO kO bO .nil pass0 (pa_cons (pe_fld (pv 0) (by rfl)) (pa_cons (pe_op op_cat (pv 3) (pe_lst (pa_cons (pv 1) pa_nil))) pa_nil))))
      (C8.pss_cut (ps_if (pt_cmpR op_notN (pv 4) pe_non (nomark _))
        (pss_one (ps_raise rfl (takes_of rfl rfl rfl rfl) (XI.pmk_initE (f := "time") (mono_two (mono_joined4 mono_C (mono_fmt mono_var) mono_C (mono_fmt mono_var)) mono_var) xTooMuch.T xTooMuch.iC xTooMuch.tI xTooMuch.F hr xTooMuch.b pass0 rfl xTooMuch.g (pa_cons (pe_joined (PJ.cons pe_str (PJ.cons (pe_fmt (pv 2)) (PJ.cons pe_str (PJ.cons (pe_fmt (pv 4)) PJ.nil))))) (pa_cons (pv 4) pa_nil)))))
        pss_nil)
      (pss_cons (ps_dput (hu_of hr) (pe_fld (pv 0) (by rfl)) (pv 2) (pv 1) rfl)
      (pss_one (ps_fld (pv 0) pe_non rfl))))))), ?_⟩
    obtain ⟨am, x1, x2⟩ := bx
    obtain ⟨ad, ma, md⟩ := B.ad
    refine ⟨_, rfl, r, _, 0, .str x.key, rfl, rfl, SqT.of x1, rfl, ?_⟩
    -- the others
    refine ⟨d, _, B.en, trivial, fun od => ?_⟩
    have kd : KTu H (upd H d (.frz od (.dK ps))) := kt_put B.en (fun xs z => by cases z)
    have pr1 : Paired (EnAt (upd H d (.frz od (.dK ps)))) ps rs := B.prs.mono fun _ _ x => x.kt kd
    have obj1 : upd H d (.frz od (.dK ps)) a = some (.ins C dx (flds m d lv)) := by
      rw [upd_ne ad]
      exact B.obj
    have ed1 : upd H d (.frz od (.dK ps)) d = some (.frz od (.dK ps)) := upd_same
    have k1 : Kp [d] H (upd H d (.frz od (.dK ps))) := kp_lock
    generalize upd H d (.frz od (.dK ps)) = H1 at kd pr1 obj1 ed1 k1 ⊢
    refine ⟨_, rfl, a, C, dx, _, .ref d, rfl, obj1, c.cls, c.entries, rfl, d, od, ps, rfl, ed1, fun D nD => ?_⟩
    have lp : ps.length = rs.length := B.prs.length
    have fw := B.few
    refine lc_it walk_values (fun i H' => Same H1 H' ∧ ∃ as : List Addr, H' D = some (.lst (as.map V.ref)) ∧ as.length ≤ i ∧ Paired (BwAt H') as ((rs.take i).filter fun y => decide (y.key ≠ x.key)))
      ⟨same_upd nD, [], upd_same, Nat.le_refl _, .nil⟩ (fun i H' _ p => p.1 _ _ ed1) (fun i v H2o H2 hi p y => ?_) (fun H2 p => ?_)
    · obtain ⟨p1, as, p2, p3, p4⟩ := p
      obtain ⟨rfl, key, hk⟩ := y
      obtain ⟨R, hR, h1, ry, h2, hy⟩ := paired_get pr1 hk
      have h2' : v = .ref ry := h2
      subst h2'
      have hy2 := hy.kt (Same.kt p1)
      obtain ⟨ay, y1, y2⟩ := hy2
      have tk : (rs.take (i + 1)).filter (fun y => decide (y.key ≠ x.key)) = (rs.take i).filter (fun y => decide (y.key ≠ x.key)) ++ (if R.key ≠ x.key then [R] else []) := by
        rw [List.take_add_one, hR, List.filter_append]
        congr 1
        show List.filter _ [R] = _
        rw [List.filter_cons]
        by_cases e : R.key = x.key
        · rw [if_neg (by rw [decide_eq_true_eq]; exact fun q => q e), if_neg (fun q => q e)]
          rfl
        · rw [if_pos (decide_eq_true e), if_pos e]
          rfl
      refine ⟨rfl, ?_⟩
      refine ⟨_, rfl, ry, _, 0, .str R.key, rfl, rfl, SqT.of y1, rfl, _, rfl, rfl, _, rfl, ite2 (fun e => ?_) (fun e => ?_)⟩
      · have ne : R.key ≠ x.key := fun z => by
          rw [z] at e
          simp at e
        have kt : KTu H2 (upd H2 D (.lst (as.map V.ref ++ [.ref ry]))) := kt_put p2 (fun xs z => by cases z)
        refine ⟨_, rfl, _, p2, ?_, same_put p1 nD, as ++ [ry], ?_, ?_, ?_⟩
        · rw [List.length_map]
          exact small63 (by omega)
        · rw [upd_same, List.map_append]
          rfl
        · rw [List.length_append]
          show as.length + 1 ≤ i + 1
          omega
        · rw [tk, if_pos ne]
          exact Paired.snoc (p4.mono fun _ _ x => x.kt kt) (BwAt.kt kt ⟨ay, y1, y2⟩)
      · have eq : R.key = x.key := by
          by_cases z : R.key = x.key
          · exact z
          · exact absurd (by simp [z]) e
        refine ⟨p1, as, p2, by omega, ?_⟩
        rw [tk, if_neg (fun q => q eq), List.append_nil]
        exact p4
    obtain ⟨p1, as, p2, p3, p4⟩ := p
    rw [lp, List.take_length] at p4
    refine ⟨p1 _ _ ed1, ?_⟩
    have s3 : Same H (upd H2 d (.dK ps)) := unlock_same B.en (k1.trans (Same.kp _ p1))
    have Dd : D ≠ d := fun z => by
      rw [z, ed1] at nD
      cases nD
    have nDH : H D = none := kp_free k1 Dd nD
    have eD3 : upd H2 d (.dK ps) D = some (.lst (as.map V.ref)) := by
      rw [upd_ne Dd]
      exact p2
    have pr3 : Paired (BwAt (upd H2 d (.dK ps))) as (rs.filter fun y => decide (y.key ≠ x.key)) := p4.mono fun _ _ x => x.kt (kt_put (p1 _ _ ed1) (fun xs z => by cases z))
    generalize upd H2 d (.dK ps) = H3 at s3 eD3 pr3 ⊢
    have B3 := B.same s3
    have bx3 : BwAt H3 r x := ⟨am, s3 _ _ x1, s3 _ _ x2⟩
    -- all of them
    refine ⟨_, rfl, a, C, dx, _, .ref m, rfl, B3.obj, c.cls, c.room, rfl, _, rfl, _, rfl, by show 1 ≤ sizeLine; decide, fun l1 n1 => ?_⟩
    refine ⟨D, l1, _, _, rfl, rfl, same_upd n1 _ _ eD3, upd_same, ?_, fun p5 np5 => ?_⟩
    · rw [List.length_map]
      show as.length + 1 ≤ sizeLine
      exact small63 (by omega)
    have s5 : Same H3 (upd (upd H3 l1 (.lst [.ref r])) p5 (.lst (as.map V.ref ++ [.ref r]))) := (same_upd n1).trans (same_upd np5)
    have e5 : upd (upd H3 l1 (.lst [.ref r])) p5 (.lst (as.map V.ref ++ [.ref r])) p5 = some (.lst ((as ++ [r]).map V.ref)) := by
      rw [upd_same, List.map_append]
      rfl
    generalize upd (upd H3 l1 (.lst [.ref r])) p5 (.lst (as.map V.ref ++ [.ref r])) = H5 at s5 e5 ⊢
    have s05 := s3.trans s5
    have B5 := B.same s05
    have f5 := Fw.same tH s05
    refine ⟨m, p5, room, as ++ [r], withX rs x, rfl, SqT.of B5.rm, SqL.of e5, Paired.snoc (pr3.mono fun _ _ x => x.kt (Same.kt s5)) (bx3.kt (Same.kt s5)), okW, B.r1, B.r20, nn, f5.tabs, fun H6 ks f6 sr => ?_⟩
    have f06 := f5.trans f6
    have t5 := f5.tabs
    have obj6 : H6 a = some (.ins C dx (flds m d lv)) := f6.obj t5 B5.obj fun ps z => by cases z
    have en6 : H6 d = some (.dK ps) := f6.obj t5 B5.en fun ps z => by cases z
    have kt6 := f6.kt t5
    have B6 : BookAt H6 C a dx m d lv ps room rs := ⟨obj6, kt6 _ _ B5.rm, en6, B5.prs.mono fun _ _ x => x.kt kt6, B.nd, B.few, B.ok, B.r1, B.r20⟩
    have bx6 : BwAt H6 r x := (bx3.kt (Same.kt s5)).kt kt6
    refine ⟨fun σ H' => σ = [some (.ref a), some (.ref r), some (.str x.key), some (.ref D), some .non, none] ∧ H' = H6 ∧ ks.find? (ovr room.length (withX rs x) room) = none, ?_, fun σ H' hm => ?_⟩
    · refine ⟨_, rfl, rfl, _, rfl, ite2 (fun e => ?_) (fun e => ?_)⟩
      · cases ho : ks.find? (ovr room.length (withX rs x) room) with
        | none => rw [ho] at e; simp [oI] at e
        | some t =>
          have tb : t.natAbs.log2 < 1920 := by
            obtain ⟨y, hy, ey⟩ := (sr.2 t).mp (List.mem_of_find?_eq_some ho)
            rcases ey with ey | ey
            · rw [← ey]; exact (bnd y hy).1
            · rw [← ey]; exact (bnd y hy).2
          have tl : (Str.ofString (toString t)).length ≤ 2000 := by
            have e := int_text_length_le (k := 1920) (by decide) tb
            rw [PySem.ofString_length]
            omega
          have big : 3000 ≤ sizeLine := by decide
          refine ⟨_, rfl, by decide +kernel, _, rfl, .inl ⟨x.key, rfl, by omega, _, rfl, ?_, _, rfl, ?_, _, rfl, .inr ⟨t, by rfl, tb, _, rfl, ?_, _, rfl, _, _, rfl, fun dE nE => ?_⟩⟩⟩
          · rw [Str.length_append]
            exact Nat.le_trans (Nat.add_le_add_left kl _) (by decide +kernel)
          · rw [Str.length_append, Str.length_append]
            exact Nat.le_trans (Nat.add_le_add_right (Nat.add_le_add_left kl _) _) (by decide +kernel)
          · rw [Str.length_append, Str.length_append, Str.length_append]
            exact Nat.le_trans (Nat.add_le_add (Nat.add_le_add_right (Nat.add_le_add_left kl _) _) tl) (by decide +kernel)
          · exact qe _ ks t dE sr ho (f06.then (same_upd nE)) (f06.free tH nE) upd_same
      · cases ho : ks.find? (ovr room.length (withX rs x) room) with
        | none => exact ⟨rfl, rfl, rfl⟩
        | some t => rw [ho] at e; exact absurd (by simp [oI]) e
    obtain ⟨rfl, rfl, no⟩ := hm
    obtain ⟨k7, B7⟩ := B6.set (put_pairs bx6 B6.prs) (putR_nd B.nd) few okP
    refine ⟨_, rfl, _, rfl, a, C, dx, _, .ref d, rfl, obj6, c.cls, c.entries, rfl, _, rfl, d, _, rfl, DPut.k (k := (Sum.inr x.key : Key)) en6 (small63 (by omega)), ?_⟩
    refine ⟨_, rfl, a, C, dx, _, rfl, by rw [upd_ne ad]; exact obj6, c.cls, c.lefts, by show 3 < 1000; decide, ?_⟩
    refine q _ ks _ sr no ?_ ?_ B7
    · exact fun y o ny e => k7 _ _ (fun z => ny (by
        rcases List.mem_cons.mp z with z | z
        · rw [z]; exact List.mem_cons_self
        · rw [List.mem_singleton.mp z]; exact List.mem_cons_of_mem _ List.mem_cons_self)) (f06.kp _ _ (fun z => ny (List.mem_cons_of_mem _ (List.mem_cons_of_mem _ z))) e)
    · exact fun T hT => TabG.kp k7 (fun z => by
        obtain ⟨pp, h1, _⟩ := f06.tabs T hT
        rcases List.mem_cons.mp z with z | z
        · rw [z, obj6] at h1; cases h1
        · rw [List.mem_singleton.mp z, en6] at h1; cases h1) (f06.tabs T hT)
theorem ok_put {f fK TM TK : Addr} {fd fdK : FuncData} {k : Nat} {Ts : List Addr} (F : Fun K "put_entry" "Book.put_entry" s_scPut f fd) (c : BCls K C) (xTaken : ExcP K mg "Taken" TK)
    (GK : FnOk P w K mg base (L2.CX P w) k fK fdK ["self", "entry"] (spKeep K Ts C TM)) (MK : Meth K C "keep_entry" fK) (bK : L2.Binds K fdK ["self", "entry"] []) :
    FnOk P w K mg base (L2.CX P w) (k + 1) f fd ["self", "key", "begin", "end", "amount"] (spPut K Ts C TM TK) := by
  have cB := c.cls
  refine F.okX scPut (fun vs H Q E h => ?_) (fun cdv A outer s H vs Q E hr h => ?_)
  · obtain ⟨a, dx, m, d, lv, ps, room, rs, p, x, rfl, _⟩ := h
    rfl
  · obtain ⟨a, dx, m, d, lv, ps, room, rs, p, x, rfl, B, hp, hz, qe, q⟩ := h
    refine ⟨_, (C8.pss_cut (ps_if (pt_cmp (pc_din (hu_of hr) (pv 1) (pe_fld (pv 0) (by rfl))))
        (pss_one (ps_raise rfl (takes_of rfl rfl rfl rfl) (SkE.pmk_own1 PySem.F.excBase_ValueError xTaken.x xTaken.g xTaken.k (raises_own xTaken.b xTaken.t) rfl (pe_joined (PJ.cons pe_str (PJ.cons (pe_fmt (pv 1)) PJ.nil))))))
        pss_nil)
      (pss_one (ps_expr (pe_meth (pv 0) cB MK GK hr bK .nil (passes_call (takes_of rfl rfl rfl rfl) (fun _ _ _ _ h => h)) (pa_cons (pe_tup (pa_cons (pv 1) (pa_cons (pv 2) (pa_cons (pv 3) (pa_cons (pv 4) pa_nil))))) pa_nil))))), ?_⟩
    refine ⟨fun σ H' => σ = [some (.ref a), some (.str x.key), some (.int x.b), some (.int x.e), some (.ref p)] ∧ H' = H ∧ x.key ∉ rs.map (·.key), ?_, fun σ H' hm => ?_⟩
    · refine ⟨_, rfl, _, rfl, a, C, dx, _, .ref d, rfl, B.obj, c.cls, c.entries, rfl, d, valV ps (Sum.inr x.key), rfl, .inl ⟨ps, Sum.inr x.key, Rd.of B.en, rfl, rfl⟩, _, rfl, ite2 (fun e => ?_) (fun e => ?_)⟩
      · cases ho : valV ps (Sum.inr x.key) with
        | none => rw [ho] at e; cases e
        | some v =>
          refine ⟨_, rfl, by decide +kernel, _, rfl, .inl ⟨x.key, rfl, ?_, _, rfl, ?_, qe (B.some ho)⟩⟩
          · exact Nat.le_trans hz (by decide)
          · rw [Str.length_append]
            exact Nat.le_trans (Nat.add_le_add_left hz _) (by decide +kernel)
      · cases ho : valV ps (Sum.inr x.key) with
        | none => exact ⟨rfl, rfl, B.none ho⟩
        | some v => rw [ho] at e; exact absurd rfl e
    · obtain ⟨rfl, rfl, hn⟩ := hm
      refine ⟨_, rfl, a, dx, _, rfl, B.obj, rfl, _, rfl, _, rfl, _, rfl, _, rfl, by show 4 ≤ sizeLine; decide, fun T nT => ?_⟩
      exact ⟨a, dx, m, d, lv, ps, room, rs, T, x, rfl, B.same (same_upd nT), ⟨p, upd_same, same_upd nT _ _ hp⟩, (q hn).same (same_upd nT) (fun _ h => h) (fun _ _ _ h => h)⟩
theorem ok_init {f : Addr} {fd : FuncData} {k : Nat} (F : Fun K "__init__" "Book.__init__" s_scInit f fd) (c : BCls K C) : FnOk P w K mg base CX0 (k + 1) f fd ["self", "room"] (spBInit C) := by
  refine F.ok scInit (fun vs H Q E h => ?_) (fun cdv A outer s H vs Q E hr h => ?_)
  · obtain ⟨a, dx, m, rfl, _⟩ := h
    rfl
  · obtain ⟨a, dx, m, rfl, hA, q⟩ := h
    refine ⟨_, (pss_cons (ps_fld (pv 0) (pv 1) rfl)
      (pss_cons (ps_fld (pv 0) pe_dnewK rfl)
      (pss_one (ps_fld (pv 0) pe_non rfl)))), ?_⟩
    refine ⟨_, rfl, _, rfl, a, C, dx, [], rfl, hA, c.cls, c.room, by show 0 < 1000; decide, ?_⟩
    have k1 : Kp [a] H (upd H a (.ins C dx (putF "room" (.ref m) []))) := kp_upd (List.mem_singleton.mpr rfl)
    have e1 : upd H a (.ins C dx (putF "room" (.ref m) [])) a = some (.ins C dx (putF "room" (.ref m) [])) := upd_same
    generalize upd H a (.ins C dx (putF "room" (.ref m) [])) = H1 at k1 e1 ⊢
    refine fun d nd => ?_
    have da : d ≠ a := fun z => by
      rw [z, e1] at nd
      cases nd
    have e2 := same_upd (o := .dK []) nd _ _ e1
    have k2 : Kp [a] H (upd H1 d (.dK [])) := kp_new k1 nd
    have ed2 : upd H1 d (.dK []) d = some (.dK []) := upd_same
    generalize upd H1 d (.dK []) = H2 at e2 k2 ed2 ⊢
    refine ⟨_, rfl, a, C, dx, _, rfl, e2, c.cls, c.entries, by show 1 < 1000; decide, ?_⟩
    refine ⟨_, rfl, a, C, dx, _, rfl, upd_same, c.cls, c.lefts, by show 2 < 1000; decide, ?_⟩
    refine q d _ ?_ ?_ (kp_free k1 da nd) ?_
    · exact fun x o nx e => by
        rw [upd_ne fun z => nx (List.mem_singleton.mpr z), upd_ne fun z => nx (List.mem_singleton.mpr z)]
        exact k2 _ _ nx e
    · rw [upd_same]
      rfl
    · rw [upd_ne da, upd_ne da]
      exact ed2
end
end My
namespace My
open PySem PySem.Spec PyProof.Rows L2 GX GxR
abbrev s_scTwin : Stmt := methS 24 12
abbrev n_scTwin : List Str := ["self", "twin"]
theorem scTwin : FnScope n_scTwin ["self"] (defScope s_scTwin) := ⟨rfl, rfl, rfl, by decide +kernel, rfl, by decide +kernel, by decide +kernel⟩
def spTwin (C : Addr) : Sp := fun vs H Q _ => ∃ (a dx m d : Addr) (lv : V) (ps : List (Key × V)) (room : List Int) (rs : List Bw), vs = [.ref a] ∧ BookAt H C a dx m d lv ps room rs ∧
  ∀ a2 dx2 d2 H', Same H H' → H a2 = none → H d2 = none → H' a2 = some (.ins C dx2 (flds m d2 lv)) → H' d2 = some (.dK ps) → Q (.ref a2) H'
section
variable {P : Program} {w : World} {K : PySem.W.Frag} {mg : Str → Option Value} {base : Heap} {C : Addr}
theorem ok_twin {f fI : Addr} {fd fdI : FuncData} {k : Nat} (F : Fun K "twin_book" "Book.twin_book" s_scTwin f fd) (c : BCls K C) (mk : Mk K C fI) (mBook : mg "Book" = some (.ref C)) (mDict : mg "dict" = none)
    (GI : FnOk P w K mg base CX0 k fI fdI ["self", "room"] (spBInit C)) (bI : L2.Binds K fdI ["self", "room"] []) : FnOk P w K mg base CX0 (k + 1 + 1) f fd ["self"] (spTwin C) := by
  refine F.ok scTwin (fun vs H Q E h => ?_) (fun cdv A outer s H vs Q E hr h => ?_)
  · obtain ⟨a, dx, m, d, lv, ps, room, rs, rfl, _⟩ := h
    rfl
  · obtain ⟨a, dx, m, d, lv, ps, room, rs, rfl, B, q⟩ := h
    refine ⟨_, (pss_cons (ps_set (i := 1) scTwin.nd rfl (.inl rfl) (pe_make mk GI hr (by rfl) mBook bI .nil pass0 (pa_cons (pe_fld (pv 0) (by rfl)) pa_nil)))
      (pss_cons (ps_fld (pv 1) (pe_callTy call_dictD (by rfl) mDict (by decide +kernel) (pa_cons (pe_fld (pv 0) (by rfl)) pa_nil)) rfl)
      (pss_cons (ps_fld (pv 1) (pe_fld (pv 0) (by rfl)) rfl)
      (pss_one (ps_ret (pv 1)))))), ?_⟩
    refine ⟨_, rfl, a, C, dx, _, .ref m, rfl, B.obj, c.cls, c.room, rfl, fun x dx2 nx ndx nex => ?_⟩
    refine ⟨x, dx2, m, rfl, upd_same, fun d0 H1 k1 e1 nd0 ed0 => ⟨rfl, ?_⟩⟩
    have s0 : Same H (upd (upd H dx2 (.own x)) x (.ins C dx2 [])) := (same_upd ndx).trans (same_upd (by rw [upd_ne (Ne.symm nex)]; exact nx))
    have s1 : Same H H1 := fun y o ey => k1 _ _ (fun z => by
      rw [List.mem_singleton.mp z, nx] at ey
      cases ey) (s0 _ _ ey)
    have B1 := B.same s1
    have ax : a ≠ x := ne_of_none B.obj nx
    refine ⟨_, rfl, a, C, dx, _, .ref d, rfl, B1.obj, c.cls, c.entries, rfl, d, ps, rfl, Rd.of B1.en, fun d2 nd2 => ?_⟩
    have s2 := s1.trans (same_upd (o := .dK ps) nd2)
    have e2 := same_upd (o := .dK ps) nd2 _ _ e1
    have ed2 : upd H1 d2 (.dK ps) d2 = some (.dK ps) := upd_same
    have d2x : d2 ≠ x := fun z => by
      rw [z, e1] at nd2
      cases nd2
    have nd2H : H d2 = none := s1.free nd2
    generalize upd H1 d2 (.dK ps) = H2 at s2 e2 ed2 ⊢
    refine ⟨_, rfl, x, C, dx2, _, rfl, e2, c.cls, c.entries, by show 3 < 1000; decide, ?_⟩
    have s3 : Same H (upd H2 x (.ins C dx2 (putF "entries" (.ref d2) (flds m d0 .non)))) := same_put s2 nx
    have e3 : upd H2 x (.ins C dx2 (putF "entries" (.ref d2) (flds m d0 .non))) x = some (.ins C dx2 (flds m d2 .non)) := upd_same
    have ed3 : upd H2 x (.ins C dx2 (putF "entries" (.ref d2) (flds m d0 .non))) d2 = some (.dK ps) := by
      rw [upd_ne d2x]
      exact ed2
    generalize upd H2 x (.ins C dx2 (putF "entries" (.ref d2) (flds m d0 .non))) = H3 at s3 e3 ed3 ⊢
    have B3 := B.same s3
    refine ⟨_, rfl, a, C, dx, _, lv, rfl, B3.obj, c.cls, c.lefts, rfl, _, rfl, x, C, dx2, _, rfl, e3, c.cls, c.lefts, by show 3 < 1000; decide, ?_⟩
    refine ⟨_, rfl, q x dx2 d2 _ (same_put s3 nx) nx nd2H upd_same ?_⟩
    rw [upd_ne d2x]
    exact ed3
end
end My
set_option maxHeartbeats 1000000
namespace My
open PySem PySem.Spec PyProof.Rows L2 GX GxR
theorem dc_list {K : PySem.W.Frag} {a : Addr} {xs : List V} {g : TG} {tt : TT} {tk tv : TE} {vs : List Nat} {σ : L2.St} {H1 : Hp} {D : Addr} {Qd : Hp → Prop} (Pv : Nat → Hp → Prop) (h0 : Pv 0 (upd H1 D (.dK []))) (hl : ∀ i H, i ≤ xs.length → Pv i H → SqL K H a xs)
    (hs : ∀ i x H, xs[i]? = some x → Pv i H → g x (wipe σ vs) H fun σ2 H2 => wipe σ2 vs = wipe σ vs ∧ tt σ2 H2 fun b H3 =>
      if b = true then tk σ2 H3 fun y H4 => tv σ2 H4 fun z H5 => ∃ kvs k, y = kV k ∧ H5 D = some (.dK kvs) ∧ kvs.length < sizeLine ∧ Pv (i + 1) (upd H5 D (.dK (putK kvs k z))) else Pv (i + 1) H3) (hd : ∀ H, Pv xs.length H → Qd H) :
    ∃ W : Nat → Nat → Hp → Prop, (∃ m, W 0 m (upd H1 D (.dK []))) ∧ ∀ i m H, W i m H →
      ((Itl K a).stop i H ∧ Qd H) ∨ ((Itl K a).go i H ∧ ∃ Nx : Hp → Prop, (∀ H', Nx H' → ∃ m', m' < m ∧ W (i + 1) m' H') ∧ ∀ x H', (Itl K a).yld i H x H' → g x (wipe σ vs) H' fun σ2 H2 => wipe σ2 vs = wipe σ vs ∧ tt σ2 H2 fun b H3 =>
        if b = true then tk σ2 H3 fun y H4 => tv σ2 H4 fun z H5 => ∃ kvs k, y = kV k ∧ H5 D = some (.dK kvs) ∧ kvs.length < sizeLine ∧ Nx (upd H5 D (.dK (putK kvs k z))) else Nx H3) := by
  refine ⟨fun i m H => m = xs.length - i ∧ i ≤ xs.length ∧ Pv i H, ⟨xs.length, rfl, Nat.zero_le _, h0⟩, ?_⟩
  rintro i m H ⟨rfl, hi, p⟩
  have q := hl i H hi p
  by_cases hlt : i < xs.length
  · refine .inr ⟨⟨xs, xs[i], q, by simp [hlt]⟩, Pv (i + 1), fun H' p' => ⟨xs.length - (i + 1), by omega, rfl, hlt, p'⟩, fun x H' y => ?_⟩
    obtain ⟨e, y⟩ := y
    subst e
    exact hs i x _ (y xs q) p
  · have e : i = xs.length := by omega
    subst e
    exact .inl ⟨⟨xs, q, Nat.le_refl _⟩, hd H p⟩
end My
set_option maxHeartbeats 1000000
namespace My
open PySem PySem.Spec PyProof.Rows L2 GX GxR
abbrev s_scHOf : Stmt := methS 28 18
abbrev n_scHOf : List Str := ["self", "name"]
theorem scHOf : FnScope n_scHOf ["self", "name"] (defScope s_scHOf) := ⟨rfl, rfl, rfl, by decide +kernel, rfl, by decide +kernel, by decide +kernel⟩
abbrev s_scIsB : Stmt := methS 28 21
abbrev n_scIsB : List Str := ["self", "name"]
theorem scIsB : FnScope n_scIsB ["self", "name"] (defScope s_scIsB) := ⟨rfl, rfl, rfl, by decide +kernel, rfl, by decide +kernel, by decide +kernel⟩
abbrev s_scPlOf : Stmt := methS 28 22
abbrev n_scPlOf : List Str := ["self", "name"]
theorem scPlOf : FnScope n_scPlOf ["self", "name"] (defScope s_scPlOf) := ⟨rfl, rfl, rfl, by decide +kernel, rfl, by decide +kernel, by decide +kernel⟩
abbrev s_scKeepP : Stmt := methS 28 24
abbrev n_scKeepP : List Str := ["self", "name", "pairs"]
theorem scKeepP : FnScope n_scKeepP ["self", "name", "pairs"] (defScope s_scKeepP) := ⟨rfl, rfl, rfl, by decide +kernel, rfl, by decide +kernel, by decide +kernel⟩
abbrev s_scRise : Stmt := methS 28 19
abbrev n_scRise : List Str := ["self", "name"]
theorem scRise : FnScope n_scRise ["self"] (defScope s_scRise) := ⟨rfl, rfl, rfl, by decide +kernel, rfl, by decide +kernel, by decide +kernel⟩
section
variable {P : Program} {w : World} {K : PySem.W.Frag} {mg : Str → Option Value} {base : Heap} {CE CH CB : Addr}
theorem ok_hof {f NH : Addr} {fd : FuncData} {k : Nat} (F : Fun K "house_of" "Estate.house_of" s_scHOf f fd) (c : ECls K CE) (xNoHouse : ExcP K mg "NoHouse" NH) : FnOk P w K mg base (L2.CX P w) (k + 1) f fd ["self", "name"] (spHOf CE NH) := by
  refine F.okX scHOf (fun vs H Q E h => ?_) (fun cdv A outer s H vs Q E hr h => ?_)
  · obtain ⟨e, edx, hd, pd, L, z, rfl, _⟩ := h
    rfl
  · obtain ⟨e, edx, hd, pd, L, z, rfl, B, hz, q, qe⟩ := h
    refine ⟨_, (C8.pss_cut (ps_if (pt_cmp (pc_dnotin (hu_of hr) (pv 1) (pe_fld (pv 0) (by rfl))))
  (pss_one (ps_raise rfl (takes_of rfl rfl rfl rfl) (SkE.pmk_own1 PySem.F.excBase_ValueError xNoHouse.x xNoHouse.g xNoHouse.k (raises_own xNoHouse.b xNoHouse.t) rfl (pe_joined (PJ.cons pe_str (PJ.cons (pe_fmt (pv 1)) PJ.nil))))))
  pss_nil)
(pss_one (ps_ret (pe_dget (hu_of hr) (pe_fld (pv 0) (by rfl)) (pv 1) (fun _ _ => rfl))))), ?_⟩
    refine ⟨fun σ H' => σ = [some (.ref e), some (.str z)] ∧ H' = H ∧ ∃ v, valV (hkv L) (Sum.inr z : Key) = some v, ?_, fun σ H' hm => ?_⟩
    · refine ⟨_, rfl, _, rfl, e, CE, edx, _, .ref hd, rfl, B.obj, c.cls, c.houses, rfl, hd, valV (hkv L) (Sum.inr z : Key), rfl, .inl ⟨hkv L, Sum.inr z, Rd.of B.hs, rfl, rfl⟩, _, rfl, ite2 (fun e => ?_) (fun e => ?_)⟩
      · cases ho : valV (hkv L) (Sum.inr z : Key) with
        | some v => rw [ho] at e; cases e
        | none =>
          refine ⟨_, rfl, by decide +kernel, _, rfl, .inl ⟨z, rfl, ?_, _, rfl, ?_, qe (B.none.mp ho)⟩⟩
          · exact Nat.le_trans hz (by decide)
          · rw [Str.length_append]
            exact Nat.le_trans (Nat.add_le_add_left hz _) (by decide +kernel)
      · cases ho : valV (hkv L) (Sum.inr z : Key) with
        | some v => exact ⟨rfl, rfl, v, rfl⟩
        | none => rw [ho] at e; exact absurd rfl e
    · obtain ⟨rfl, rfl, v, hv⟩ := hm
      obtain ⟨p, hp, h1, rfl⟩ := B.has hv
      exact ⟨_, rfl, e, CE, edx, _, .ref hd, rfl, B.obj, c.cls, c.houses, rfl, _, rfl, hd, .ref p.1.a, rfl, dgetR (Rd.of B.hs) hv, q p hp h1⟩
theorem ok_isb {f : Addr} {fd : FuncData} {k : Nat} (F : Fun K "is_booked" "Estate.is_booked" s_scIsB f fd) (c : ECls K CE) : FnOk P w K mg base CX0 (k + 1) f fd ["self", "name"] (spIsB CE) := by
  refine F.ok scIsB (fun vs H Q E h => ?_) (fun cdv A outer s H vs Q E hr h => ?_)
  · obtain ⟨e, edx, hd, pd, pps, z, rfl, _⟩ := h
    rfl
  · obtain ⟨e, edx, hd, pd, pps, z, rfl, ho, hp, q⟩ := h
    refine ⟨_, (pss_one (ps_ret (pe_cmp (pc_din (hu_of hr) (pv 1) (pe_fld (pv 0) (by rfl)))))), ?_⟩
    exact ⟨_, rfl, _, rfl, e, CE, edx, _, .ref pd, rfl, ho, c.cls, c.placings, rfl, pd, valV pps (Sum.inr z : Key), rfl, .inl ⟨pps, Sum.inr z, Rd.of hp, rfl, rfl⟩, q⟩
theorem ok_plof {f fI NG : Addr} {fd fdI : FuncData} {k : Nat} (F : Fun K "placing_of" "Estate.placing_of" s_scPlOf f fd) (c : ECls K CE) (xNoGang : ExcP K mg "NoGang" NG)
    (GI : FnOk P w K mg base CX0 k fI fdI ["self", "name"] (spIsB CE)) (MI : Meth K CE "is_booked" fI) (bI : Binds K fdI ["self", "name"] []) : FnOk P w K mg base (L2.CX P w) (k + 1) f fd ["self", "name"] (spPlOf CE NG) := by
  have cE := c.cls
  refine F.okX scPlOf (fun vs H Q E h => ?_) (fun cdv A outer s H vs Q E hr h => ?_)
  · obtain ⟨e, edx, hd, pd, pps, z, rfl, _⟩ := h
    rfl
  · obtain ⟨e, edx, hd, pd, pps, z, rfl, ho, hp, hz, q, qe⟩ := h
    refine ⟨_, (C8.pss_cut (ps_if (pt_not (pt_val (pe_meth (pv 0) cE MI GI hr bI .nil pass0 (pa_cons (pv 1) pa_nil))))
  (pss_one (ps_raise rfl (takes_of rfl rfl rfl rfl) (SkE.pmk_own1 PySem.F.excBase_ValueError xNoGang.x xNoGang.g xNoGang.k (raises_own xNoGang.b xNoGang.t) rfl (pe_joined (PJ.cons pe_str (PJ.cons (pe_fmt (pv 1)) (PJ.cons pe_str PJ.nil)))))))
  pss_nil)
(pss_one (ps_ret (pe_dget (hu_of hr) (pe_fld (pv 0) (by rfl)) (pv 1) (fun _ _ => rfl))))), ?_⟩
    refine ⟨fun σ H' => σ = [some (.ref e), some (.str z)] ∧ H' = H ∧ ∃ v, valV pps (Sum.inr z : Key) = some v, ?_, fun σ H' hm => ?_⟩
    · refine ⟨_, rfl, e, edx, _, rfl, ho, rfl, _, rfl, e, edx, hd, pd, pps, z, rfl, ho, hp, _, rfl, ite2 (fun hb => ?_) (fun hb => ?_)⟩
      · cases hv : valV pps (Sum.inr z : Key) with
        | some v => rw [hv] at hb; cases hb
        | none =>
          refine ⟨_, rfl, by decide +kernel, _, rfl, .inl ⟨z, rfl, ?_, _, rfl, ?_, ?_⟩⟩
          · exact Nat.le_trans hz (by decide)
          · rw [Str.length_append]
            exact Nat.le_trans (Nat.add_le_add_left hz _) (by decide +kernel)
          · refine ⟨_, rfl, ?_, qe hv⟩
            rw [Str.length_append, Str.length_append]
            exact Nat.le_trans (Nat.add_le_add_right (Nat.add_le_add_left hz _) _) (by decide +kernel)
      · cases hv : valV pps (Sum.inr z : Key) with
        | some v => exact ⟨rfl, rfl, v, rfl⟩
        | none => rw [hv] at hb; exact absurd rfl hb
    · obtain ⟨rfl, rfl, v, hv⟩ := hm
      exact ⟨_, rfl, e, CE, edx, _, .ref pd, rfl, ho, c.cls, c.placings, rfl, _, rfl, pd, v, rfl, dgetR (Rd.of hp) hv, q v hv⟩
theorem ok_keepp {f fI : Addr} {fd fdI : FuncData} {k : Nat} (F : Fun K "keep_placing" "Estate.keep_placing" s_scKeepP f fd) (c : ECls K CE) (X : Txt mg)
    (GI : FnOk P w K mg base CX0 k fI fdI ["self", "name"] (spIsB CE)) (MI : Meth K CE "is_booked" fI) (bI : Binds K fdI ["self", "name"] []) : FnOk P w K mg base CX0 (k + 1) f fd ["self", "name", "pairs"] (spKeepP K CE) := by
  have cE := c.cls
  refine F.ok scKeepP (fun vs H Q E h => ?_) (fun cdv A outer s H vs Q E hr h => ?_)
  · obtain ⟨e, edx, hd, pd, l, pps, z, us, rfl, _⟩ := h
    rfl
  · obtain ⟨e, edx, hd, pd, l, pps, z, us, rfl, ho, hp, hl, few, q1, q2⟩ := h
    refine ⟨_, (pss_one (ps_if (pt_truth (pv 2) (by intro _; rfl))
  (pss_one (ps_dput (hu_of hr) (pe_fld (pv 0) (by rfl)) (pv 1) (pe_callTy (r := SX.rTupF K) SX.cr_tupF (by rfl) X.tup bt_tuple (pa_cons (pv 2) pa_nil)) rfl))
  (pss_one (ps_if (pt_val (pe_meth (pv 0) cE MI GI hr bI .nil pass0 (pa_cons (pv 1) pa_nil)))
    (pss_one (ps_ddel (pe_fld (pv 0) (by rfl)) (pv 1)))
    pss_nil)))), ?_⟩
    refine ⟨_, rfl, !us.isEmpty, .inl ⟨us, SqL.of hl, rfl⟩, ?_⟩
    cases us with
    | nil =>
      obtain ⟨g1, g2⟩ := q1 rfl
      refine iteF ⟨_, rfl, e, edx, _, rfl, ho, rfl, _, rfl, e, edx, hd, pd, pps, z, rfl, ho, hp, _, rfl, ite2 (fun hb => ?_) (fun hb => ?_)⟩
      · exact ⟨_, rfl, e, CE, edx, _, .ref pd, rfl, ho, c.cls, c.placings, rfl, _, rfl, pd, pps, Sum.inr z, rfl, hp, rfl, hb, g1 hb⟩
      · refine g2 ?_
        cases hv : valV pps (Sum.inr z : Key) with
        | none => rfl
        | some v => rw [hv] at hb; exact absurd rfl hb
    | cons u us =>
      refine iteT ⟨_, rfl, l, _, rfl, SqL.of hl, fun t o nt oc od => ?_⟩
      have s1 : Same H (upd H t (.frz o (.tup (u :: us)))) := same_upd nt
      refine ⟨_, rfl, e, CE, edx, _, .ref pd, rfl, s1 _ _ ho, c.cls, c.placings, rfl, _, rfl, pd, _, rfl, DPut.k (k := (Sum.inr z : Key)) (s1 _ _ hp) (sml (by omega)), q2 (by simp) t o nt oc od⟩
theorem ok_rise {f : Addr} {fd : FuncData} {k : Nat} (F : Fun K "rising_houses" "Estate.rising_houses" s_scRise f fd) (c : ECls K CE) (mSorted : mg "sorted" = none) : FnOk P w K mg base CX0 (k + 1) f fd ["self"] (spRise CE) := by
  refine F.ok scRise (fun vs H Q E h => ?_) (fun cdv A outer s H vs Q E hr h => ?_)
  · obtain ⟨e, edx, hd, pd, L, rfl, _⟩ := h
    rfl
  · obtain ⟨e, edx, hd, pd, L, rfl, B, q⟩ := h
    refine ⟨_, (pss_one (ps_ret (pe_lc (own := [("name", 1)]) (g := (gName 1)) (tt := tYes) (te := (tTup (tCons (tVar 1) (tCons (tDGet (tFld K (tVar 0) "houses") (tVar 1)) tNil)))) rfl scRise.nd (pi_list (pe_callB (SX.cr_sortDk rfl hr.units) (by rfl) mSorted (by decide +kernel) (pa_cons (pe_fld (pv 0) (by rfl)) pa_nil))) (blkOk_by (own := [("name", 1)]) (N := n_scRise) (sc := defScope s_scRise) (by decide +kernel)) (fun _ _ _ _ _ => (pg_name (i := 1) scRise.nd rfl (.inl rfl))) (fun _ _ _ _ _ => pts_nil) (fun _ _ _ _ _ => (pe_tup (pa_cons (pv 1) (pa_cons (pe_dget (hu_of hr) (pe_fld (pv 0) (by rfl)) (pv 1) (fun _ _ => rfl)) pa_nil))))))), ?_⟩
    have few := B.few
    refine ⟨_, rfl, e, CE, edx, _, .ref hd, rfl, B.obj, c.cls, c.houses, rfl, hd, hkv L, names L, rfl, Rd.of B.hs, hkv_keys L, by unfold names; rw [List.length_map]; omega, fun ys p pm so np => ?_⟩
    have ly : ys.length = L.length := by rw [pm.length_eq]; unfold names; rw [List.length_map]
    have s1 : Same H (upd H p (.lst (ys.map V.str))) := same_upd np
    have e1 : upd H p (.lst (ys.map V.str)) p = some (.lst (ys.map V.str)) := upd_same
    generalize upd H p (.lst (ys.map V.str)) = H1 at s1 e1 ⊢
    obtain ⟨L', pL, eL⟩ : ∃ L' : List Hp2, L'.Perm L ∧ names L' = ys := by
      obtain ⟨L', p, e⟩ := ST.perm_image pm L rfl
      exact ⟨L', p, e.symm⟩
    have B1 := B.same s1
    refine ⟨p, rfl, ⟨_, SqL.of e1⟩, fun D nD => ?_⟩
    have fD : H D = none := s1.free nD
    refine lc_list (K := K) (xs := ys.map V.str) (fun i H' => Same H1 H' ∧ ∃ ts : List Addr, H' D = some (.lst (ts.map V.ref)) ∧ Paired (RiAt H') ts (L'.take i)) ⟨same_upd nD, [], upd_same, by rw [List.take_zero]; exact .nil⟩ (fun i H' _ p => SqL.of (p.1 _ _ e1)) (fun i x H' hx p => ?_) (fun H2 pm2 => ?_)
    · obtain ⟨p1, ts, p2, p3⟩ := p
      rw [← eL] at hx
      unfold names at hx
      rw [List.map_map, List.getElem?_map] at hx
      cases hp : L'[i]? with
      | none => rw [hp] at hx; cases hx
      | some pr =>
        rw [hp] at hx
        obtain rfl : V.str pr.2.name = x := Option.some.inj hx
        have hm : pr ∈ L := pL.mem_iff.mp (List.mem_of_getElem? hp)
        have B2 := B1.same p1
        have hi : i < L'.length := (List.getElem?_eq_some_iff.mp hp).1
        have lt := p3.length
        rw [List.length_take] at lt
        have lL := pL.length_eq
        refine ⟨rfl, _, rfl, _, rfl, e, CE, edx, _, .ref hd, rfl, B2.obj, c.cls, c.houses, rfl, _, rfl, hd, .ref pr.1.a, rfl, dgetR (Rd.of B2.hs) (B2.get hm), by show 2 ≤ sizeLine; decide, fun t nt => ?_⟩
        have s2 := p1.trans (same_upd (o := .tup [.str pr.2.name, .ref pr.1.a]) nt)
        have e2 := same_upd (o := .tup [.str pr.2.name, .ref pr.1.a]) nt _ _ p2
        refine ⟨_, e2, ?_, same_putA s2 nD, ts ++ [t], ?_, ?_⟩
        · rw [List.length_map]
          exact sml (by omega)
        · rw [upd_same, List.map_append]
          rfl
        · rw [List.take_add_one, hp]
          refine (paired_snoc (p3.mono fun _ _ h => h.same (same_upd nt)) ?_).mono fun _ _ h => h.put e2
          exact upd_same
    · obtain ⟨p1, ts, p2, p3⟩ := pm2
      rw [List.length_map, ly, ← pL.length_eq, List.take_length] at p3
      refine q D L' ts H2 pL (by rw [eL]; exact so) (s1.trans p1) fD p2 p3
end
end My
set_option maxHeartbeats 1000000
namespace My
open PySem PySem.Spec PyProof.Rows L2 GX GxR
abbrev s_scHRows : Stmt := methS 28 12
abbrev n_scHRows : List Str := ["self", "name", "house"]
theorem scHRows : FnScope n_scHRows ["self"] (defScope s_scHRows) := ⟨rfl, rfl, rfl, by decide +kernel, rfl, by decide +kernel, by decide +kernel⟩
abbrev s_scEIn : Stmt := methS 28 14
abbrev n_scEIn : List Str := ["self", "name"]
theorem scEIn : FnScope n_scEIn ["self", "name"] (defScope s_scEIn) := ⟨rfl, rfl, rfl, by decide +kernel, rfl, by decide +kernel, by decide +kernel⟩
abbrev s_scSet : Stmt := methS 28 2
abbrev n_scSet : List Str := ["self", "name", "state", "house"]
theorem scSet : FnScope n_scSet ["self", "name", "state"] (defScope s_scSet) := ⟨rfl, rfl, rfl, by decide +kernel, rfl, by decide +kernel, by decide +kernel⟩
abbrev s_scHInit : Stmt := methS 27 0
abbrev n_scHInit : List Str := ["self", "yard", "kind", "state", "book"]
theorem scHInit : FnScope n_scHInit ["self", "yard", "kind", "state", "book"] (defScope s_scHInit) := ⟨rfl, rfl, rfl, by decide +kernel, rfl, by decide +kernel, by decide +kernel⟩
abbrev s_scEInit : Stmt := methS 28 0
abbrev n_scEInit : List Str := ["self"]
theorem scEInit : FnScope n_scEInit ["self"] (defScope s_scEInit) := ⟨rfl, rfl, rfl, by decide +kernel, rfl, by decide +kernel, by decide +kernel⟩
abbrev s_scAdd : Stmt := methS 28 1
abbrev n_scAdd : List Str := ["self", "name", "yard", "room", "kind"]
theorem scAdd : FnScope n_scAdd ["self", "name", "yard", "room", "kind"] (defScope s_scAdd) := ⟨rfl, rfl, rfl, by decide +kernel, rfl, by decide +kernel, by decide +kernel⟩
section
variable {P : Program} {w : World} {K : PySem.W.Frag} {mg : Str → Option Value} {base : Heap} {CE CH CB : Addr}
theorem ok_hrows {f fR fW : Addr} {fd fdR fdW : FuncData} {k : Nat} (F : Fun K "house_rows" "Estate.house_rows" s_scHRows f fd) (c : ECls K CE) (cH : HCls K CH) (cBk : BCls K CB)
    (GR : FnOk P w K mg base CX0 k fR fdR ["self"] (spRise CE)) (MR : Meth K CE "rising_houses" fR) (bR : Binds K fdR ["self"] [])
    (GW : FnOk P w K mg base CX0 k fW fdW ["self"] (spWRoom CB)) (MW : Meth K CB "whole_room" fW) (bW : Binds K fdW ["self"] []) : FnOk P w K mg base CX0 (k + 1) f fd ["self"] (spHRows CE CH CB) := by
  have cE := c.cls
  have cB := cBk.cls
  refine F.ok scHRows (fun vs H Q E h => ?_) (fun cdv A outer s H vs Q E hr h => ?_)
  · obtain ⟨e, edx, hd, pd, L, rfl, _⟩ := h
    rfl
  · obtain ⟨e, edx, hd, pd, L, rfl, B, each, q⟩ := h
    refine ⟨_, (pss_one (ps_ret (pe_lc (own := [("name", 1), ("house", 2)]) (g := (gTup K 2 (gCons (gName 1) (gCons (gName 2) gNil)))) (tt := tYes) (te := (tTup (tCons (tVar 1) (tCons (tFld K (tVar 2) "yard") (tCons (tMeth CB "whole_room" (spWRoom CB) [] E0 (tFld K (tVar 2) "book") tNil) (tCons (tFld K (tVar 2) "kind") (tCons (tFld K (tVar 2) "state") tNil))))))) rfl scHRows.nd (pi_list (pe_meth0 (pv 0) cE MR GR hr bR .nil pass0)) (blkOk_by (own := [("name", 1), ("house", 2)]) (N := n_scHRows) (sc := defScope s_scHRows) (by decide +kernel)) (fun _ _ _ _ _ => (pg_tup rfl (pgs_cons (pg_name (i := 1) scHRows.nd rfl (.inl rfl)) (pgs_cons (pg_name (i := 2) scHRows.nd rfl (.inl rfl)) pgs_nil)))) (fun _ _ _ _ _ => pts_nil) (fun _ _ _ _ _ => (pe_tup (pa_cons (pv 1) (pa_cons (pe_fld (pv 2) (by rfl)) (pa_cons (pe_meth0 (pe_fld (pv 2) (by rfl)) cB MW GW hr bW .nil pass0) (pa_cons (pe_fld (pv 2) (by rfl)) (pa_cons (pe_fld (pv 2) (by rfl)) pa_nil)))))))))), ?_⟩
    have few := B.few
    refine ⟨_, rfl, e, edx, _, rfl, B.obj, rfl, e, edx, hd, pd, L, rfl, B, fun l L' ts H1 pL so s1 nl e1 r1 => ⟨l, rfl, ⟨_, SqL.of e1⟩, fun D nD => ?_⟩⟩
    have fD : H D = none := s1.free nD
    have lts := r1.length
    have lL := pL.length_eq
    have lf : L'.length ≤ 60 := by rw [lL]; exact few
    refine lc_list (K := K) (xs := ts.map V.ref) (fun i H' => Same H1 H' ∧ ∃ us : List Addr, H' D = some (.lst (us.map V.ref)) ∧ Paired (HrAt H') us (L'.take i)) ⟨same_upd nD, [], upd_same, by rw [List.take_zero]; exact .nil⟩ (fun i H' _ p => SqL.of (p.1 _ _ e1)) (fun i x H' hx p => ?_) (fun H2 pm2 => ?_)
    · obtain ⟨p1, us, p2, p3⟩ := p
      rw [List.getElem?_map] at hx
      cases ht : ts[i]? with
      | none => rw [ht] at hx; cases hx
      | some t =>
        rw [ht] at hx
        obtain rfl : V.ref t = x := Option.some.inj hx
        obtain ⟨pr, hp, ri⟩ := paired_get r1 ht
        have hm : pr ∈ L := pL.mem_iff.mp (List.mem_of_getElem? hp)
        have ha := (each pr hm).same (s1.trans p1)
        have ri' : RiAt H' t pr := ri.same p1
        have hi : i < L'.length := (List.getElem?_eq_some_iff.mp hp).1
        have l3 := p3.length
        rw [List.length_take] at l3
        refine ⟨t, _, rfl, SqT.of ri', rfl, _, _, rfl, _, _, rfl, rfl, rfl, ?_⟩
        refine ⟨_, rfl, _, rfl, pr.1.a, CH, pr.1.dx, _, .str pr.2.yard, rfl, ha.obj, cH.cls, cH.yard, rfl, _, rfl, pr.1.a, CH, pr.1.dx, _, .ref pr.1.b, rfl, ha.obj, cH.cls, cH.book, rfl, pr.1.b, pr.1.bdx, _, rfl, ha.book.obj, rfl, pr.1.b, pr.1.bdx, pr.1.m, pr.1.d, pr.1.lv, rfl, ha.book.obj, ?_⟩
        refine ⟨_, rfl, pr.1.a, CH, pr.1.dx, _, optS pr.2.kind, rfl, ha.obj, cH.cls, cH.kind, rfl, _, rfl, pr.1.a, CH, pr.1.dx, _, .str pr.2.state, rfl, ha.obj, cH.cls, cH.state, rfl, by show 5 ≤ sizeLine; decide, fun t2 nt2 => ?_⟩
        have s2 := p1.trans (same_upd (o := .tup [.str pr.2.name, .str pr.2.yard, .ref pr.1.m, optS pr.2.kind, .str pr.2.state]) nt2)
        have e2 := same_upd (o := .tup [.str pr.2.name, .str pr.2.yard, .ref pr.1.m, optS pr.2.kind, .str pr.2.state]) nt2 _ _ p2
        refine ⟨_, e2, ?_, same_putA s2 nD, us ++ [t2], ?_, ?_⟩
        · rw [List.length_map]
          exact sml (by omega)
        · rw [upd_same, List.map_append]
          rfl
        · rw [List.take_add_one, hp]
          refine (paired_snoc (p3.mono fun _ _ h => h.same (same_upd nt2)) ?_).mono fun _ _ h => h.put e2
          exact upd_same
    · obtain ⟨p1, us, p2, p3⟩ := pm2
      rw [List.length_map, lts, List.take_length] at p3
      exact q D L' us H2 pL so (s1.trans p1) fD p2 p3
theorem ok_ein {f fH fA NH : Addr} {fd fdH fdA : FuncData} {k : Nat} (F : Fun K "entries_in" "Estate.entries_in" s_scEIn f fd) (c : ECls K CE) (cH : HCls K CH) (cBk : BCls K CB)
    (GH : FnOk P w K mg base (L2.CX P w) k fH fdH ["self", "name"] (spHOf CE NH)) (MH : Meth K CE "house_of" fH) (bH : Binds K fdH ["self", "name"] [])
    (GA : FnOk P w K mg base CX0 k fA fdA ["self"] (spERows K CB)) (MA : Meth K CB "entry_rows" fA) (bA : Binds K fdA ["self"] []) : FnOk P w K mg base (L2.CX P w) (k + 1) f fd ["self", "name"] (spEIn CE CH CB NH) := by
  have cE := c.cls
  have cB := cBk.cls
  refine F.okX scEIn (fun vs H Q E h => ?_) (fun cdv A outer s H vs Q E hr h => ?_)
  · obtain ⟨e, edx, hd, pd, L, z, rfl, _⟩ := h
    rfl
  · obtain ⟨e, edx, hd, pd, L, z, rfl, B, each, hz, q, qe⟩ := h
    refine ⟨_, (pss_one (ps_ret (pe_meth0 (pe_fld (pe_meth (pv 0) cE MH GH hr bH .nil (passes_call (takes_of rfl rfl rfl rfl) (fun _ _ _ _ h => h)) (pa_cons (pv 1) pa_nil)) (by rfl)) cB MA GA hr bA .nil pass0))), ?_⟩
    refine ⟨_, rfl, e, edx, _, rfl, B.obj, rfl, _, rfl, e, edx, hd, pd, L, z, rfl, B, hz, fun p hp hn => ?_, qe⟩
    have ha := each p hp
    exact ⟨p.1.a, CH, p.1.dx, _, .ref p.1.b, rfl, ha.obj, cH.cls, cH.book, rfl, p.1.b, p.1.bdx, _, rfl, ha.book.obj, rfl, p.1.b, p.1.bdx, p.1.m, p.1.d, p.1.lv, p.1.ps, p.2.room, p.2.bs, rfl, ha.book, fun l H' as ss s1 nl e1 p1 ik => q p hp hn l H' as ss s1 nl e1 p1 ik⟩
theorem ok_sets {f fH NH : Addr} {fd fdH : FuncData} {k : Nat} (F : Fun K "set_state" "Estate.set_state" s_scSet f fd) (c : ECls K CE) (cH : HCls K CH)
    (GH : FnOk P w K mg base (L2.CX P w) k fH fdH ["self", "name"] (spHOf CE NH)) (MH : Meth K CE "house_of" fH) (bH : Binds K fdH ["self", "name"] []) : FnOk P w K mg base (L2.CX P w) (k + 1) f fd ["self", "name", "state"] (spSetS CE CH NH) := by
  have cE := c.cls
  refine F.okX scSet (fun vs H Q E h => ?_) (fun cdv A outer s H vs Q E hr h => ?_)
  · obtain ⟨e, edx, hd, pd, L, z, st, rfl, _⟩ := h
    rfl
  · obtain ⟨e, edx, hd, pd, L, z, st, rfl, B, each, hz, q, qe⟩ := h
    refine ⟨_, (pss_cons (ps_set (i := 3) scSet.nd rfl (.inl rfl) (pe_meth (pv 0) cE MH GH hr bH .nil (passes_call (takes_of rfl rfl rfl rfl) (fun _ _ _ _ h => h)) (pa_cons (pv 1) pa_nil)))
(pss_one (ps_fld (pv 3) (pv 2) rfl))), ?_⟩
    refine ⟨_, rfl, e, edx, _, rfl, B.obj, rfl, _, rfl, e, edx, hd, pd, L, z, rfl, B, hz, fun p hp hn => ?_, qe⟩
    exact ⟨_, rfl, _, rfl, p.1.a, CH, p.1.dx, _, rfl, each p hp, cH.cls, cH.state, by show 4 < 1000; decide, q p hp hn⟩
theorem ok_hinit {f : Addr} {fd : FuncData} {k : Nat} (F : Fun K "__init__" "House.__init__" s_scHInit f fd) (cH : HCls K CH) : FnOk P w K mg base CX0 (k + 1) f fd ["self", "yard", "kind", "state", "book"] (spHInit CH) := by
  refine F.ok scHInit (fun vs H Q E h => ?_) (fun cdv A outer s H vs Q E hr h => ?_)
  · obtain ⟨a, dx, b, y, st, kd, rfl, _⟩ := h
    rfl
  · obtain ⟨a, dx, b, y, st, kd, rfl, hA, q⟩ := h
    refine ⟨_, (pss_cons (ps_fld (pv 0) (pv 1) rfl)
(pss_cons (ps_fld (pv 0) (pv 2) rfl)
(pss_cons (ps_fld (pv 0) (pv 3) rfl)
(pss_one (ps_fld (pv 0) (pv 4) rfl))))), ?_⟩
    refine ⟨_, rfl, _, rfl, a, CH, dx, [], rfl, hA, cH.cls, cH.yard, by show 0 < 1000; decide, ?_⟩
    refine ⟨_, rfl, _, rfl, a, CH, dx, _, rfl, upd_same, cH.cls, cH.kind, by show 1 < 1000; decide, ?_⟩
    refine ⟨_, rfl, _, rfl, a, CH, dx, _, rfl, upd_same, cH.cls, cH.state, by show 2 < 1000; decide, ?_⟩
    refine ⟨_, rfl, _, rfl, a, CH, dx, _, rfl, upd_same, cH.cls, cH.book, by show 3 < 1000; decide, ?_⟩
    have e : upd (upd (upd (upd H a (.ins CH dx (putF "yard" (.str y) []))) a (.ins CH dx (putF "kind" (optS kd) (putF "yard" (.str y) [])))) a (.ins CH dx (putF "state" (.str st) (putF "kind" (optS kd) (putF "yard" (.str y) []))))) a (.ins CH dx (putF "book" (.ref b) (putF "state" (.str st) (putF "kind" (optS kd) (putF "yard" (.str y) []))))) = upd H a (.ins CH dx (hfl ⟨Str.ofString "", y, kd, st, [], []⟩ b)) := by
      funext x
      by_cases hx : x = a
      · rw [hx, upd_same, upd_same]
        rfl
      · rw [upd_ne hx, upd_ne hx, upd_ne hx, upd_ne hx, upd_ne hx]
    have q' := q
    rw [← e] at q'
    exact q'
theorem ok_einit {f : Addr} {fd : FuncData} {k : Nat} (F : Fun K "__init__" "Estate.__init__" s_scEInit f fd) (c : ECls K CE) : FnOk P w K mg base CX0 (k + 1) f fd ["self"] (spEInit CE) := by
  refine F.ok scEInit (fun vs H Q E h => ?_) (fun cdv A outer s H vs Q E hr h => ?_)
  · obtain ⟨e, edx, rfl, _⟩ := h
    rfl
  · obtain ⟨e, edx, rfl, hA, q⟩ := h
    refine ⟨_, (pss_cons (ps_fld (pv 0) pe_dnewK rfl)
(pss_one (ps_fld (pv 0) pe_dnewK rfl))), ?_⟩
    refine fun hd nhd => ?_
    have s1 : Same H (upd H hd (.dK [])) := same_upd nhd
    have ehd : upd H hd (.dK []) hd = some (.dK []) := upd_same
    generalize upd H hd (.dK []) = H1 at s1 ehd ⊢
    refine ⟨_, rfl, e, CE, edx, [], rfl, s1 _ _ hA, c.cls, c.houses, by show 0 < 1000; decide, ?_⟩
    have hde : hd ≠ e := fun z => by rw [z, hA] at nhd; cases nhd
    have k2 : Kp [e] H (upd H1 e (.ins CE edx (putF "houses" (.ref hd) []))) := (Same.kp _ s1).trans (kp_upd (List.mem_singleton.mpr rfl))
    have e2 : upd H1 e (.ins CE edx (putF "houses" (.ref hd) [])) e = some (.ins CE edx [("houses", .ref hd)]) := upd_same
    have ehd2 : upd H1 e (.ins CE edx (putF "houses" (.ref hd) [])) hd = some (.dK []) := by rw [upd_ne hde]; exact ehd
    generalize upd H1 e (.ins CE edx (putF "houses" (.ref hd) [])) = H2 at k2 e2 ehd2 ⊢
    refine fun pd npd => ?_
    have pde : pd ≠ e := fun z => by rw [z, e2] at npd; cases npd
    have phd : pd ≠ hd := fun z => by rw [z, ehd2] at npd; cases npd
    have s3 : Same H2 (upd H2 pd (.dK [])) := same_upd npd
    have epd : upd H2 pd (.dK []) pd = some (.dK []) := upd_same
    have k3 := k2.trans (Same.kp [e] s3)
    generalize upd H2 pd (.dK []) = H3 at s3 epd k3 ⊢
    refine ⟨_, rfl, e, CE, edx, _, rfl, s3 _ _ e2, c.cls, c.placings, by show 1 < 1000; decide, ?_⟩
    refine q hd pd _ nhd (kp_free k2 pde npd) (Ne.symm phd) (k3.trans (kp_upd (List.mem_singleton.mpr rfl))) upd_same ?_ ?_
    · rw [upd_ne hde]
      exact s3 _ _ ehd2
    · rw [upd_ne pde]
      exact epd
theorem ok_add {f fJ fI TK : Addr} {fd fdJ fdI : FuncData} {k : Nat} {tk : Tok} (F : Fun K "add_house" "Estate.add_house" s_scAdd f fd) (c : ECls K CE) (mkH : Mk K CH fJ) (mkB : Mk K CB fI) (mHouse : mg "House" = some (.ref CH)) (mBook : mg "Book" = some (.ref CB)) (xTaken : ExcP K mg "Taken" TK) (mOpen : mg "OPEN" = some (.str "open" tk))
    (GJ : FnOk P w K mg base CX0 k fJ fdJ ["self", "yard", "kind", "state", "book"] (spHInit CH)) (bJ : L2.Binds K fdJ ["self", "yard", "kind", "state", "book"] [])
    (GB : FnOk P w K mg base CX0 k fI fdI ["self", "room"] (spBInit CB)) (bB : L2.Binds K fdI ["self", "room"] []) : FnOk P w K mg base (L2.CX P w) (k + 1 + 1) f fd ["self", "name", "yard", "room", "kind"] (spAdd CE CH CB TK) := by
  refine F.okX scAdd (fun vs H Q E h => ?_) (fun cdv A outer s H vs Q E hr h => ?_)
  · obtain ⟨e, edx, hd, pd, m, L, z, y, kd, rfl, _⟩ := h
    rfl
  · obtain ⟨e, edx, hd, pd, m, L, z, y, kd, rfl, B, hz, qe, q⟩ := h
    refine ⟨_, (C8.pss_cut (ps_if (pt_cmp (pc_din (hu_of hr) (pv 1) (pe_fld (pv 0) (by rfl))))
  (pss_one (ps_raise rfl (takes_of rfl rfl rfl rfl) (SkE.pmk_own1 PySem.F.excBase_ValueError xTaken.x xTaken.g xTaken.k (raises_own xTaken.b xTaken.t) rfl (pe_joined (PJ.cons pe_str (PJ.cons (pe_fmt (pv 1)) PJ.nil))))))
  pss_nil)
(pss_one (ps_dput (hu_of hr) (pe_fld (pv 0) (by rfl)) (pv 1) (pe_make mkH GJ hr (by rfl) mHouse bJ .nil pass0 (pa_cons (pv 2) (pa_cons (pv 4) (pa_cons (pe_glob (v := .str "open") (by rfl) mOpen ⟨_, rfl⟩) (pa_cons (pe_make mkB GB hr (by rfl) mBook bB .nil pass0 (pa_cons (pv 3) pa_nil)) pa_nil))))) rfl))), ?_⟩
    refine ⟨fun σ H' => σ = [some (.ref e), some (.str z), some (.str y), some (.ref m), some (optS kd)] ∧ H' = H ∧ z ∉ names L, ?_, fun σ H' hm => ?_⟩
    · refine ⟨_, rfl, _, rfl, e, CE, edx, _, .ref hd, rfl, B.obj, c.cls, c.houses, rfl, hd, valV (hkv L) (Sum.inr z : Key), rfl, .inl ⟨hkv L, Sum.inr z, Rd.of B.hs, rfl, rfl⟩, _, rfl, ite2 (fun e => ?_) (fun e => ?_)⟩
      · cases ho : valV (hkv L) (Sum.inr z : Key) with
        | none => rw [ho] at e; cases e
        | some v =>
          obtain ⟨p, hp, hn, _⟩ := B.has ho
          refine ⟨_, rfl, by decide +kernel, _, rfl, .inl ⟨z, rfl, ?_, _, rfl, ?_, qe (List.mem_map.mpr ⟨p, hp, hn⟩)⟩⟩
          · exact Nat.le_trans hz (by decide)
          · rw [Str.length_append]
            exact Nat.le_trans (Nat.add_le_add_left hz _) (by decide +kernel)
      · cases ho : valV (hkv L) (Sum.inr z : Key) with
        | none => exact ⟨rfl, rfl, B.none.mp ho⟩
        | some v => rw [ho] at e; exact absurd rfl e
    · obtain ⟨rfl, rfl, hn⟩ := hm
      refine ⟨_, rfl, _, rfl, _, rfl, fun b bdx nb nbdx nbx => ?_⟩
      refine ⟨b, bdx, m, rfl, upd_same, fun d H1 k1 e1 nd ed => ⟨rfl, ?_⟩⟩
      have s0 : Same H' (upd (upd H' bdx (.own b)) b (.ins CB bdx [])) := (same_upd nbdx).trans (same_upd (by rw [upd_ne (Ne.symm nbx)]; exact nb))
      have s1 : Same H' H1 := fun y o ey => k1 _ _ (fun z => by
        rw [List.mem_singleton.mp z, nb] at ey
        cases ey) (s0 _ _ ey)
      have fd0 : H' d = none := s0.free nd
      dsimp only [tNil]
      refine fun a dx na ndx nax => ?_
      refine ⟨a, dx, b, y, "open", kd, rfl, upd_same, rfl, ?_⟩
      have s2 : Same H1 (upd (upd (upd H1 dx (.own a)) a (.ins CH dx [])) a (.ins CH dx (hfl ⟨Str.ofString "", y, kd, Str.ofString "open", [], []⟩ b))) := same_put ((same_upd ndx).trans (same_upd (by rw [upd_ne (Ne.symm nax)]; exact na))) na
      have e2 : upd (upd (upd H1 dx (.own a)) a (.ins CH dx [])) a (.ins CH dx (hfl ⟨Str.ofString "", y, kd, Str.ofString "open", [], []⟩ b)) a = some (.ins CH dx (hfl ⟨Str.ofString "", y, kd, Str.ofString "open", [], []⟩ b)) := upd_same
      have fa0 : H' a = none := s1.free na
      generalize upd (upd (upd H1 dx (.own a)) a (.ins CH dx [])) a (.ins CH dx (hfl ⟨Str.ofString "", y, kd, Str.ofString "open", [], []⟩ b)) = H2 at s2 e2 ⊢
      have s12 := s1.trans s2
      have hs2 := s12 _ _ B.hs
      have few : (hkv L).length ≤ 60 := by unfold hkv; rw [List.length_map]; exact B.few
      refine ⟨_, rfl, e, CE, edx, _, .ref hd, rfl, s12 _ _ B.obj, c.cls, c.houses, rfl, _, rfl, hd, _, rfl, DPut.k (k := (Sum.inr z : Key)) hs2 (sml (by omega)), q hn a dx b bdx d _ fa0 nb fd0 ((Same.kp _ s12).trans (kp_upd (List.mem_singleton.mpr rfl))) ?_ ?_ ?_ upd_same⟩
      · rw [upd_ne (fun z => by rw [z, hs2] at e2; cases e2)]
        exact e2
      · rw [upd_ne (fun z => by rw [z, B.hs] at nb; cases nb)]
        exact s2 _ _ e1
      · rw [upd_ne (fun z => by rw [z, B.hs] at fd0; cases fd0)]
        exact s2 _ _ ed
end
end My
set_option maxHeartbeats 1000000
/-! {k: v for .. in ..} whose value may raise: what it lets out goes on to the def -/
namespace DX
open PySem PySem.Spec PyProof.Rows L2
/-- the block's context, its exceptions told by xe -/
abbrev blkX (X : Cx) (s : Shared) (H : Hp) (scope : Scope) (cenv : Env) (fp : List Addr) (xe : Value → Shared → Prop) : Cx := { X.blk s H scope cenv fp with xe := xe }
section
variable {X : Cx}
theorem Inv.toX {scope : Scope} {cenv : Env} {fp : List Addr} {s0 s : Shared} {H0 H : Hp} {σ : L2.St} {xe : Value → Shared → Prop} (I : Inv (X.blk s0 H0 scope cenv fp) [] σ H s) : Inv (blkX X s0 H0 scope cenv fp xe) [] σ H s := I.toTry xe
theorem Inv.ofX {scope : Scope} {cenv : Env} {fp : List Addr} {s0 s : Shared} {H0 H : Hp} {σ : L2.St} {pn : List (Addr × Obj)} {xe : Value → Shared → Prop} (ok : (X.blk s0 H0 scope cenv fp).Ok) (I : Inv (blkX X s0 H0 scope cenv fp xe) pn σ H s) : Inv (X.blk s0 H0 scope cenv fp) [] σ H s :=
  Inv.ofTry (X := X.blk s0 H0 scope cenv fp) (pins := []) I ok
/-- an exception out of a call in the block: noted, the block let go, and on it goes in the def -/
theorem out_of {pins : List (Addr × Obj)} {σ : L2.St} {H : Hp} {W : WX} {E : XK} {sc t : Shared} {ce : Env} {u : Value} {m : Str → Option Value} (IX : Inv X pins σ H sc) (hs : X.stack = X.env :: X.outer) (hf : X.env.frame = some X.env.locals) (hce : ce.frame = X.env.frame)
    (fC : FpOk X pins H ce.locals) (hn : sc.heap.Ns ce.locals m) (tk : Takes X W) (hW : ∀ cls d H', E cls d H' → W cls d σ H') (c : L2.CX X.prog X.w X.stack H sc E u t) :
    wpAny (model X.prog X.w) X.A (noteFrame u ce) (fun _ t1 => CompFails (model X.prog X.w) X.A X.xe ce u t1) (fun _ _ => False) t := by
  obtain ⟨a, B, H1, cls, d, rfl, fl, hok, ub, na, os, ag, hE⟩ := c
  have same : noteFrame (.ref a) ce = noteFrame (.ref a) X.env := by
    have fe : PySem.frameOf ce = PySem.frameOf X.env := by
      unfold PySem.frameOf
      rw [hce]
    unfold noteFrame
    rw [hce, fe]
  rw [same]
  have frames : X.A.frames = some (X.env :: X.outer) := by rw [IX.ok.frames, hs]
  obtain ⟨c0, c1, c2, c3, c4, c5⟩ := fC
  have stays : B.StaysIn t.heap := fl.1
  have fl' := fl
  rw [hs] at fl'
  refine HandSPX.looks_onZ Zc.steady frames hf fl' fun h1 held up => ?_
  -- the block's own dict
  obtain ⟨oC, es, ep, hC, dC, rest⟩ := _root_.id hn
  have cfs : ce.locals ∉ frs X.stack := fun z => by
    rw [hs] at z
    have z' : ce.locals ∈ (X.env :: X.outer).filterMap (·.frame) := z
    rw [List.filterMap_cons, hf] at z'
    rcases List.mem_cons.mp z' with y | y
    · exact c1 y
    · exact c2 y
  have bC : B.get? ce.locals = some oC := ub.keep _ _ hC c0 cfs
  have nT : t.heap.Ns ce.locals m := ⟨oC, es, ep, stays _ _ bC, dC, rest⟩
  refine ⟨m, up.ns nT, fun h2 m2 n2 sb => ?_⟩
  -- the ground without the block
  obtain ⟨B2, b1, b2⟩ := restrict B fun b => !decide (b = ce.locals)
  have B2of : ∀ b o, B2.get? b = some o → B.get? b = some o ∧ b ≠ ce.locals := fun b o q => by
    by_cases z : b = ce.locals
    · rw [b2 b (by simp [z])] at q
      cases q
    · rw [b1 b (by simp [z])] at q
      exact ⟨q, z⟩
  have toB2 : ∀ b o, B.get? b = some o → b ≠ ce.locals → B2.get? b = some o := fun b o q z => by
    rw [b1 b (by simp [z])]
    exact q
  have B2none : ∀ b, B.get? b = none → B2.get? b = none := fun b q => by
    cases y : B2.get? b with
    | none => rfl
    | some o =>
      have := (B2of b o y).1
      rw [q] at this
      cases this
  obtain ⟨k1, k2, k3, k4⟩ := held
  obtain ⟨oe, vs, T, oT, ts, t1, t2, t3, t4, t5, t6, t7, t8, t9⟩ := k4
  have neq : ∀ b o, B.get? b = none → B.get? ce.locals = some o → b ≠ ce.locals := fun b o q1 q2 z => by
    rw [z, q2] at q1
    cases q1
  have aC : a ≠ ce.locals := neq _ _ k2 bC
  have TC : T ≠ ce.locals := neq _ _ t5 bC
  have e2 : h2.get? a = some oe := (sb.2 a aC).trans t1
  have eT2 : h2.get? T = some oT := (sb.2 T TC).trans t7
  have frames2 : h2.FunFrames B2 (X.env :: X.outer) := by
    have each : ∀ l : List Env, (∀ b ∈ frs l, b ≠ ce.locals) → h1.FunFrames B l → h2.FunFrames B2 l := fun l => by
      induction l with
      | nil => exact fun _ _ => trivial
      | cons v l ih =>
        rintro nb ⟨g1, ⟨Lv, ov, q1, q2, q3, q4⟩, g3⟩
        have ne : Lv ≠ ce.locals := nb Lv (by
          show Lv ∈ (v :: l).filterMap (·.frame)
          rw [List.filterMap_cons, q1]
          exact List.mem_cons_self)
        refine ⟨g1, ⟨Lv, ov, q1, B2none _ q2, (sb.2 Lv ne).trans q3, q4⟩, ih (fun b hb => nb b ?_) g3⟩
        show b ∈ (v :: l).filterMap (·.frame)
        rw [List.filterMap_cons, q1]
        exact List.mem_cons_of_mem _ hb
    refine each _ (fun b hb z => cfs ?_) k3
    rw [hs, ← z]
    exact hb
  have held2 : HandSPX.HeldZ B2 (X.env :: X.outer) a (Zc cls d) X.env.locals h2 :=
    ⟨fun b o q => by
      obtain ⟨q1, q2⟩ := B2of b o q
      exact (sb.2 b q2).trans (k1 b o q1), B2none _ k2, frames2, oe, vs, T, oT, ts, e2, t2, t3, t4, B2none _ t5, t6, eT2, t8, t9⟩
  unfold PySem.passOn
  refine wpAny_bind (wpAny_field e2 t3 t4 ?_)
  rw [if_neg (show ¬ ((Value.ref T == Value.none) = true) from by simp)]
  rw [hce, hf]
  refine wpAny_bind (HandSPX.setFlight_onZ held2 fun h3 held3 up3 => wpAny_throw (tk _ _ ?_))
  -- the state without the exception
  obtain ⟨G, g1, g2⟩ := restrict t.heap fun b => (B.get? b).isSome || decide (b ∈ frs X.stack)
  have BG : ∀ b o, B.get? b = some o → G.get? b = some o := fun b o q => (g1 b (by simp [q])).trans (stays b o q)
  have frG : ∀ b, b ∈ frs X.stack → G.get? b = t.heap.get? b := fun b q => g1 b (by simp [q])
  have I1 : Inv X pins σ H1 { sc with heap := G, gens := t.gens, drawn := t.drawn, toks := t.toks } :=
    IX.call (ch := [])
      { keep := fun b o q1 q2 q3 _ => BG b o (ub.keep b o q1 q2 q3)
        slot := fun b o q1 _ q3 _ => by
          obtain ⟨sl, z⟩ := ub.slot b o q1 q3
          exact ⟨sl, (frG b q3).trans z⟩
        free := fun b o q1 q2 _ => ub.free b o q1 q2
        there := fun b o q1 _ => by
          by_cases y : b ∈ frs X.stack
          · obtain ⟨sl, z⟩ := ub.slot b o q1 y
            exact ⟨_, (frG b y).trans z⟩
          · obtain ⟨o', z⟩ := ub.there b o q1 y
            exact ⟨o', BG b o' z⟩
        tups := ub.tups
        frzs := ub.frzs
        tbls := ub.tbls } (hok.kept BG) ag (fun _ z => nomatch z)
  obtain ⟨G2, p1, p2⟩ := restrict G fun b => !decide (b = ce.locals)
  have c0' : H1 ce.locals = none := ub.free _ _ hC c0
  have I2 : Inv X pins σ H1 { ({ sc with heap := G, gens := t.gens, drawn := t.drawn, toks := t.toks } : Shared) with heap := G2, toks := t.toks } :=
    I1.turned (t' := t.toks) (fun b o nb q => (p1 b (by simp [nb])).trans q) c0' c1 c3 c4 c5
  have G2of : ∀ b o, G2.get? b = some o → t.heap.get? b = some o ∧ b ≠ ce.locals ∧ ((B.get? b).isSome = true ∨ b ∈ frs X.stack) := fun b o q => by
    by_cases z : b = ce.locals
    · rw [p2 b (by simp [z])] at q
      cases q
    · rw [p1 b (by simp [z])] at q
      cases y : ((B.get? b).isSome || decide (b ∈ frs X.stack)) with
      | false => rw [g2 b y] at q; cases q
      | true =>
        rw [g1 b y] at q
        exact ⟨q, z, by simpa [Bool.or_eq_true] using y⟩
  refine ⟨a, B2, _, pins, σ, H1, cls, d, rfl, I2, fun b o q nf => ?_, fun b o q nf => ?_, ?_, na, os, ag, hW _ _ _ hE⟩
  · obtain ⟨q1, q2, q3⟩ := G2of b o q
    rcases q3 with q3 | q3
    · obtain ⟨o', z⟩ := Option.isSome_iff_exists.mp q3
      have := stays b o' z
      rw [q1] at this
      cases this
      exact toB2 b o z q2
    · exact absurd q3 nf
  · obtain ⟨q1, q2, _⟩ := G2of b o q
    obtain ⟨sl, z⟩ := up b o q1 nf
    obtain ⟨sl2, z2⟩ := up3 b _ ((sb.2 b q2).trans z) nf
    exact ⟨sl2, z2⟩
  · rw [hs]
    exact .inr (.inr held3)
/-- {k: v for target in iter if ..}, whose v may let an exception out -/
theorem pe_dcX {kx vx tg iter : Expr} {ifs : List Expr} {scope : Scope} {own : List (Str × Nat)} {pos : Pos} {wi : TI} {g : TG} {tt : TT} {tk tv : TE} {W : WX} {E : XK} (hc : X.calm = true) (hN : X.N.Nodup) (hs : X.stack = X.env :: X.outer) (hf : X.env.frame = some X.env.locals)
    (tks : Takes X W) (hW : ∀ cls d σ H, E cls d H → W cls d σ H) (hi : PI X tg iter wi) (ok : BlkOk X.N X.env.scope scope own)
    (hg : ∀ (s : Shared) (H : Hp) (C : Addr) (cl : List (Str × Addr)) (fp : List Addr) (xe : Value → Shared → Prop), PG (blkX X s H scope (compEnvC scope cl C X.env) fp xe) tg g)
    (ht : ∀ (s : Shared) (H : Hp) (C : Addr) (cl : List (Str × Addr)) (fp : List Addr) (xe : Value → Shared → Prop), PTs (blkX X s H scope (compEnvC scope cl C X.env) fp xe) ifs tt)
    (hk : ∀ (s : Shared) (H : Hp) (C : Addr) (cl : List (Str × Addr)) (fp : List Addr) (xe : Value → Shared → Prop), PE (blkX X s H scope (compEnvC scope cl C X.env) fp xe) kx tk)
    (he : ∀ (s : Shared) (H : Hp) (C : Addr) (cl : List (Str × Addr)) (fp : List Addr) (xe : Value → Shared → Prop), Passes (L2.CX X.prog X.w) (blkX X s H scope (compEnvC scope cl C X.env) fp xe) E → PE (blkX X s H scope (compEnvC scope cl C X.env) fp xe) vx tv)
    (hfold : ∀ x, foldedSetIterable iter X.env x = pure x := by intro _; rfl) : PE X (.DictComp kx vx [⟨tg, iter, ifs, 0⟩] scope pos) (tDc wi g tt tk tv (own.map (·.2))) := by
  refine ⟨fun pins s σ H Q I h => ?_⟩
  rw [arm_eval_DictComp]
  have freeHas : ∀ y ∈ scope.names, y.2 = .free → ∃ c, X.env.cells.lookup y.1 = some c := fun y hy e =>
    (ok.free y hy e).elim (fun z => I.ok.has _ (.inl z)) fun z => I.ok.has _ (.inr z)
  refine PySem.comprehension_at (use := none) rfl hfold (closure_ok freeHas) ok.kind (fun y hy e => by rw [ok.uniq y hy, e])
    (thn (hi.run pins s σ H _ I h) fun xv s1 hx => thn hx fun itv s2 h2 => ?_)
  obtain ⟨it, fp, tn, J, H2, rfl, I2, T, st2, f2, q⟩ := h2
  refine wpAny_newObj_type (newEnv_comp ?_)
  generalize hD : s2.heap.objs.size = D
  obtain ⟨Wt, ⟨m0, w0⟩, turn⟩ := q D (I2.hok.fresh (Nat.le_of_eq hD))
  generalize hS : ({ s2 with heap := s2.heap.push { cls := .type "dict", data := .dict #[] } } : Shared) = S
  have heapS : S.heap = s2.heap.push { cls := .type "dict", data := .dict #[] } := by rw [← hS]
  have IS : Inv X pins σ (upd H2 D (.dK [])) S := by
    rw [← hS]
    refine I2.laid (t' := s2.toks) (fun b o z => Heap.get?_push_of_some _ z) (Nat.le_of_eq hD) ?_
    rw [← hD]
    exact dk_empty s2.heap I2.big
  have small : ∀ b ∈ fp, b < s2.heap.objs.size := fun b hb => by
    obtain ⟨o, z, _⟩ := T.obj _ _ st2 b hb
    exact Heap.lt_size z
  have fS : ∀ b ∈ fp, FpOk X pins (upd H2 D (.dK [])) b ∧ b < S.heap.objs.size := fun b hb => by
    have hlt := small b hb
    refine ⟨⟨(upd_ne (by rw [← hD]; exact Nat.ne_of_lt hlt)).trans (f2 b hb).1, (f2 b hb).2⟩, ?_⟩
    rw [heapS, Heap.size_push]
    exact Nat.lt_succ_of_lt hlt
  have stS : tn 0 S.heap := T.keep _ _ _ st2 fun b _ o z => by
    rw [heapS]
    exact Heap.get?_push_of_some _ z
  have I4 := block_start IS ok hN fS
  generalize hH3 : upd H2 D (.dK []) = H3 at IS fS I4 w0
  show codeAny _ _ (.compStart (.DictComp kx vx [⟨tg, iter, ifs, 0⟩] scope pos) 0 (.ref it) (.ref D) (compEnvC scope (cellsFrom (S.heap.objs.size + 1) scope.names (cloFrom X.env.cells scope.names [])) S.heap.objs.size X.env))
    (compEnds (model X.prog X.w) X.A X.xe none (EP X pins σ Q) (.ref D) (compEnvC scope (cellsFrom (S.heap.objs.size + 1) scope.names (cloFrom X.env.cells scope.names [])) S.heap.objs.size X.env)) { S with heap := pushCells (S.heap.push { cls := .type "dict", data := .dict #[] }) scope.names }
  have hg := hg S H3 S.heap.objs.size (cellsFrom (S.heap.objs.size + 1) scope.names (cloFrom X.env.cells scope.names [])) fp
  have ht := ht S H3 S.heap.objs.size (cellsFrom (S.heap.objs.size + 1) scope.names (cloFrom X.env.cells scope.names [])) fp
  have hk := hk S H3 S.heap.objs.size (cellsFrom (S.heap.objs.size + 1) scope.names (cloFrom X.env.cells scope.names [])) fp
  have he := he S H3 S.heap.objs.size (cellsFrom (S.heap.objs.size + 1) scope.names (cloFrom X.env.cells scope.names [])) fp
  have cF : (compEnvC scope (cellsFrom (S.heap.objs.size + 1) scope.names (cloFrom X.env.cells scope.names [])) S.heap.objs.size X.env).frame = X.env.frame := rfl
  have cL : (compEnvC scope (cellsFrom (S.heap.objs.size + 1) scope.names (cloFrom X.env.cells scope.names [])) S.heap.objs.size X.env).locals = S.heap.objs.size := rfl
  generalize compEnvC scope (cellsFrom (S.heap.objs.size + 1) scope.names (cloFrom X.env.cells scope.names [])) S.heap.objs.size X.env = ce at I4 hg ht hk he cF cL ⊢
  have none3 : ∀ b ∈ fp, H3 b = none := fun b hb => (fS b hb).1.1
  generalize hS4 : ({ S with heap := pushCells (S.heap.push { cls := .type "dict", data := .dict #[] }) scope.names } : Shared) = S4 at I4 ⊢
  have st4 : tn 0 S4.heap := T.keep _ _ _ stS fun b _ o z => by
    rw [← hS4]
    exact pushCells_keeps _ _ _ _ (Heap.get?_push_of_some _ z)
  -- what a call in the block may let out
  obtain ⟨xb, hxb⟩ : ∃ xb : Value → Shared → Prop, xb = fun u t => ∃ σ' Hc sc, Inv (X.blk S H3 scope ce fp) [] σ' Hc sc ∧ L2.CX X.prog X.w X.stack Hc sc E u t := ⟨_, rfl⟩
  have okB := I4.ok
  have pe := he xb fun pn σ' Hc sc e t I' c => by
    show xb e t
    rw [hxb]
    exact ⟨σ', Hc, sc, Inv.ofX okB I', c⟩
  have pg := hg xb
  have pt := ht xb
  have pk := hk xb
  -- back in the def
  have back : ∀ {σ' : L2.St} {Hc : Hp} {sc : Shared}, Inv (X.blk S H3 scope ce fp) [] σ' Hc sc → Inv X pins σ Hc sc ∧ FpOk X pins Hc ce.locals := fun {σ' Hc sc} I' => by
    refine ⟨IS.call' (ch := fp) I'.os I'.base I'.hok I'.bare fun b hb => ⟨(fS b hb).1.2.2.2.1, (fS b hb).1.2.1, (fS b hb).1.2.2.2.2.1, (fS b hb).1.2.2.2.2.2⟩, ?_⟩
    have nC : Hc ce.locals = none := I'.free
    rw [cL] at nC ⊢
    exact IS.fpOk (Nat.le_refl _) nC
  have err : ∀ u t, xb u t → notedBy (model X.prog X.w) X.A ce (fun e t1 => compEnds (model X.prog X.w) X.A X.xe none (EP X pins σ Q) (.ref D) ce (.error e) t1) u t := fun u t hu => by
    rw [hxb] at hu
    obtain ⟨σ', Hc, sc, I', c⟩ := hu
    obtain ⟨IX, fC⟩ := back I'
    obtain ⟨m, hn, _⟩ := I'.loc
    exact wpAny_mono (out_of IX hs hf cF fC hn tks (fun cls d H' z => hW cls d σ H' z) c) (fun _ _ z => z) fun _ _ z => z.elim
  have mine : ∀ {σ' : L2.St} {H' : Hp} {t : Shared}, Inv (blkX X S H3 scope ce fp xb) [] σ' H' t → (∀ b ∈ fp, H' b = none) → ∀ b ∈ fp, FpOk (blkX X S H3 scope ce fp xb) [] H' b := fun {σ' H' t} I' hn b hb =>
    ⟨hn b hb, (I'.ok.exf b hb).1, I'.ok.exfs b hb, .inl hb, fun y c z => (I'.ok.exf b hb).2 y c z, fun p hp => absurd (show p ∈ ([] : List (Addr × Obj)) ++ [] from hp) (by simp)⟩
  have loop : codeAny (model X.prog X.w) X.A (.compLoop (.DictComp kx vx [⟨tg, iter, ifs, 0⟩] scope pos) 0 (.ref it) (.ref D) ce) (compEnds (model X.prog X.w) X.A X.xe none (EP X pins σ Q) (.ref D) ce) S4 := by
    refine compLoop_anyD (fun n t => ∃ i H', Inv (blkX X S H3 scope ce fp xb) [] (wipe σ (own.map (·.2))) H' t ∧ tn i t.heap ∧ (∀ b ∈ fp, H' b = none) ∧ Wt i n H') ?_ m0 ⟨0, H3, Inv.toX I4, st4, none3, w0⟩
    rintro n s5 ⟨i, H5, I5, st5, n5, w5⟩
    rcases turn i n H5 w5 with ⟨stop, qq⟩ | ⟨go, Nx, hNx, step⟩
    · refine thnF (T.done (blkX X S H3 scope ce fp xb) rfl rfl rfl hc i [] s5 _ H5 (fun _ _ => False) I5 (mine I5 n5) st5 stop) fun r s6 ⟨hr, I6⟩ => ?_
      subst hr
      have I6' := Inv.ofX okB I6
      obtain ⟨I7, d0, d1, d2, d3, d4, d5⟩ := back I6'
      obtain ⟨m, hn, _⟩ := I6'.loc
      exact ⟨m, hn, fun h7 sb => ⟨.ref D, H5, I7.turned (t' := s6.toks) (fun b o nb z => (sb.2 b nb).trans z) d0 d1 d3 d4 d5, rfl, qq⟩⟩
    · refine thnF (T.item (blkX X S H3 scope ce fp xb) rfl rfl rfl hc i [] s5 _ H5 (fun _ _ => False) I5 (mine I5 n5) st5 go) fun r s6 ⟨u, hr, h6⟩ => ?_
      subst hr
      refine thnF h6 fun _ s7 ⟨x, H7, I7, r7, y7, st7, n7⟩ => ?_
      have J7 := I7.pinned (mine I7 n7) (T.obj _ _ st7)
      refine wpAny_mono (pg.run _ s7 _ H7 x u _ J7 r7 (step x H7 y7)) (fun _ s8 ⟨σ8, H8, I8, hw8, q8⟩ => ?_) err
      refine wpAny_mono (pt.run _ s8 σ8 H8 _ I8 q8) (fun b s9 ⟨H9, I9, q9⟩ => ?_) err
      have ends : ∀ {t : Shared} {H' : Hp}, Inv (blkX X S H3 scope ce fp xb) ([] ++ pinsAt fp s7.heap) σ8 H' t → Nx H' → ∃ m, m < n ∧ ∃ i H', Inv (blkX X S H3 scope ce fp xb) [] (wipe σ (own.map (·.2))) H' t ∧ tn i t.heap ∧ (∀ b ∈ fp, H' b = none) ∧ Wt i m H' := fun {t H'} I' nx => by
        obtain ⟨m', lt, w'⟩ := hNx H' nx
        have there : ∀ b ∈ fp, ∀ o, s7.heap.get? b = some o → t.heap.get? b = some o ∧ H' b = none := fun b hb o z => by
          obtain ⟨z1, z2, _⟩ := I'.pin (b, o) (List.mem_append_right _ (List.mem_append_right _ (mem_pinsAt hb z)))
          exact ⟨z1, z2⟩
        refine ⟨m', lt, i + 1, H', (I'.unpinned (pins := [])).weak (by rw [← hw8, wipe_length]) (fun j v z => ?_), T.keep _ _ _ st7 fun b hb o z => (there b hb o z).1, fun b hb => ?_, w'⟩
        · rw [← hw8] at z
          exact (wipe_some z).1
        · obtain ⟨o, z, _⟩ := T.obj _ _ st7 b hb
          exact (there b hb o z).2
      cases b with
      | false =>
        simp only [Bool.false_eq_true, if_false] at q9 ⊢
        exact ends I9 q9
      | true =>
        simp only [if_true] at q9 ⊢
        refine wpAny_mono (pk.run _ s9 σ8 H9 _ I9 q9) (fun z s10 ⟨yk, H10, I10, r10, q10⟩ => ?_) err
        refine wpAny_mono (pe.run _ s10 σ8 H10 _ I10 q10) (fun z2 s11 ⟨yv, H11, I11, r11, kvs, kk, ek, hD11, hz11, nx⟩ => ?_) err
        subst ek
        exact d_dictSet (X := blkX X S H3 scope ce fp xb) I11 hD11 hz11 r10 r11 fun s12 I12 => ends I12 nx
  exact codeAny_compStart_dict loop (T.self X.A 0 _ _ _ st4 loop)
end
end DX
set_option maxHeartbeats 1000000
namespace My
open PySem PySem.Spec PyProof.Rows L2 GX GxR
abbrev s_scStOf : Stmt := methS 28 23
abbrev n_scStOf : List Str := ["self", "name", "house", "n", "key", "begin", "end", "amount"]
theorem scStOf : FnScope n_scStOf ["self", "name"] (defScope s_scStOf) := ⟨rfl, rfl, rfl, by decide +kernel, rfl, by decide +kernel, by decide +kernel⟩
abbrev s_scTwB : Stmt := methS 28 25
abbrev n_scTwB : List Str := ["self", "names", "name"]
theorem scTwB : FnScope n_scTwB ["self", "names"] (defScope s_scTwB) := ⟨rfl, rfl, rfl, by decide +kernel, rfl, by decide +kernel, by decide +kernel⟩
abbrev s_scKeepB : Stmt := methS 28 26
abbrev n_scKeepB : List Str := ["self", "books", "name", "house"]
theorem scKeepB : FnScope n_scKeepB ["self", "books"] (defScope s_scKeepB) := ⟨rfl, rfl, rfl, by decide +kernel, rfl, by decide +kernel, by decide +kernel⟩
section
variable {P : Program} {w : World} {K : PySem.W.Frag} {mg : Str → Option Value} {base : Heap} {CE CH CB : Addr}
theorem ok_stof {f fP fH fF NG NH NK : Addr} {fd fdP fdH fdF : FuncData} {k : Nat} (F : Fun K "stretch_of" "Estate.stretch_of" s_scStOf f fd) (c : ECls K CE) (cH : HCls K CH) (cBk : BCls K CB)
    (GP : FnOk P w K mg base (L2.CX P w) k fP fdP ["self", "name"] (spPlOf CE NG)) (MP : Meth K CE "placing_of" fP) (bP : Binds K fdP ["self", "name"] [])
    (GH : FnOk P w K mg base (L2.CX P w) k fH fdH ["self", "name"] (spHOf CE NH)) (MH : Meth K CE "house_of" fH) (bH : Binds K fdH ["self", "name"] [])
    (GF : FnOk P w K mg base (L2.CX P w) k fF fdF ["self", "key"] (spEOf CB NK)) (MF : Meth K CB "entry_of" fF) (bF : Binds K fdF ["self", "key"] []) : FnOk P w K mg base (L2.CX P w) (k + 1) f fd ["self", "name"] (spStOf CE CH CB NG) := by
  have cE := c.cls
  have cB := cBk.cls
  refine F.okX scStOf (fun vs H Q E h => ?_) (fun cdv A outer s H vs Q E hr h => ?_)
  · obtain ⟨e, edx, hd, pd, pps, L, z, rfl, _⟩ := h
    rfl
  · obtain ⟨e, edx, hd, pd, pps, L, z, rfl, B, hz, q, qe⟩ := h
    refine ⟨_, (pss_cons (ps_asg (pe_ix ix_tup (pe_meth (pv 0) cE MP GP hr bP .nil (passes_call (takes_of rfl rfl rfl rfl) (fun _ _ _ _ h => h)) (pa_cons (pv 1) pa_nil)) pe_int (fun _ _ => rfl)) (pg_tup rfl (pgs_cons (pg_name (i := 2) scStOf.nd rfl (.inl rfl)) (pgs_cons (pg_name (i := 3) scStOf.nd rfl (.inl rfl)) pgs_nil))))
(pss_cons (ps_asg (pe_meth (pe_fld (pe_meth (pv 0) cE MH GH hr bH .nil (passes_call (takes_of rfl rfl rfl rfl) (fun _ _ _ _ h => h)) (pa_cons (pv 2) pa_nil)) (by rfl)) cB MF GF hr bF .nil (passes_call (takes_of rfl rfl rfl rfl) (fun _ _ _ _ h => h)) (pa_cons (pv 1) pa_nil)) (pg_tup rfl (pgs_cons (pg_name (i := 4) scStOf.nd rfl (.inl rfl)) (pgs_cons (pg_name (i := 5) scStOf.nd rfl (.inl rfl)) (pgs_cons (pg_name (i := 6) scStOf.nd rfl (.inl rfl)) (pgs_cons (pg_name (i := 7) scStOf.nd rfl (.inl rfl)) pgs_nil))))))
(pss_one (ps_ret (pe_tup (pa_cons (pv 5) (pa_cons (pv 6) pa_nil))))))), ?_⟩
    refine ⟨_, rfl, e, edx, _, rfl, B.obj, rfl, _, rfl, e, edx, hd, pd, pps, z, rfl, B.obj, B.pl, hz, fun v hv => ?_, fun hn => qe (B.not_booked hn)⟩
    obtain ⟨t, ps, rfl, hps, hpl⟩ := B.pls z v hv
    have hbk := B.booked hv
    obtain ⟨us, hu, hpv⟩ := hps.at
    cases ps with
    | nil =>
      obtain ⟨hm, h1, em, h2, h3⟩ := hbk
      have := (hpl.is hm.name em.many).mpr ⟨hm, h1, rfl, em, h2, h3, rfl⟩
      cases this
    | cons q0 ps =>
      obtain ⟨t0, hv0, ht0⟩ := hpv.at 0 q0 rfl
      obtain ⟨hm, hmm, hnm, em, hem, hek, hemn⟩ := (hpl.is q0.1 q0.2).mp List.mem_cons_self
      obtain ⟨p, hp, rfl⟩ := List.mem_map.mp hmm
      have ha := B.each p hp
      refine ⟨t, us, 0, .ref t0, rfl, rfl, .inl hu, atI_nat (j := 0) hv0, ?_⟩
      refine ⟨t0, _, rfl, SqT.of ht0, rfl, _, _, rfl, _, _, rfl, rfl, ?_⟩
      refine ⟨_, rfl, e, edx, _, rfl, B.obj, rfl, _, rfl, e, edx, hd, pd, L, q0.1, rfl, B.eh, by rw [← hnm]; exact B.good.nm _ hmm, fun p' hp' hn' => ?_, fun hno => absurd (List.mem_map.mpr ⟨p, hp, hnm⟩) hno⟩
      have epp : p' = p := nodup_inj B.nd p' hp' p hp (hn'.trans hnm.symm)
      subst epp
      refine ⟨p'.1.a, CH, p'.1.dx, _, .ref p'.1.b, rfl, ha.obj, cH.cls, cH.book, rfl, p'.1.b, p'.1.bdx, _, rfl, ha.book.obj, rfl, _, rfl, p'.1.b, p'.1.bdx, p'.1.m, p'.1.d, p'.1.lv, p'.1.ps, p'.2.room, p'.2.bs, z, rfl, ha.book, hz, fun r x hr1 hr2 hr3 hr4 => ?_, fun hno => ?_⟩
      · obtain ⟨em2, hem2, rfl⟩ := List.mem_map.mp hr3
        obtain ⟨pa, hr5, hr6⟩ := hr2
        refine ⟨r, _, rfl, SqT.of hr5, rfl, _, _, rfl, _, _, rfl, _, _, rfl, _, _, rfl, rfl, ?_⟩
        refine ⟨_, rfl, _, rfl, by show 2 ≤ sizeLine; decide, fun t2 nt2 => ?_⟩
        exact q p' hp em2 hem2 hr4 t2 _ (same_upd nt2) upd_same
      · exact absurd (List.mem_map.mpr ⟨em.x, List.mem_map.mpr ⟨em, hem, rfl⟩, hek⟩) hno
theorem ok_twb {f fH fN NH : Addr} {fd fdH fdN : FuncData} {k : Nat} (F : Fun K "twin_books" "Estate.twin_books" s_scTwB f fd) (c : ECls K CE) (cH : HCls K CH) (cBk : BCls K CB)
    (GH : FnOk P w K mg base (L2.CX P w) k fH fdH ["self", "name"] (spHOf CE NH)) (MH : Meth K CE "house_of" fH) (bH : Binds K fdH ["self", "name"] [])
    (GN : FnOk P w K mg base CX0 k fN fdN ["self"] (spTwin CB)) (MN : Meth K CB "twin_book" fN) (bN : Binds K fdN ["self"] []) : FnOk P w K mg base (L2.CX P w) (k + 1) f fd ["self", "names"] (spTwB CE CH CB NH) := by
  have cE := c.cls
  have cB := cBk.cls
  refine F.okX scTwB (fun vs H Q E h => ?_) (fun cdv A outer s H vs Q E hr h => ?_)
  · obtain ⟨e, edx, hd, pd, l, L, zs, rfl, _⟩ := h
    rfl
  · obtain ⟨e, edx, hd, pd, l, L, zs, rfl, B, each, hl, znd, z60, z100, q, qe⟩ := h
    refine ⟨_, (pss_one (ps_ret (DX.pe_dcX (E := E) (own := [("name", 2)]) (g := gName 2) (tt := tYes) (tk := tVar 2) (tv := tMeth CB "twin_book" (spTwin CB) [] E0 (tFld K (tMeth CE "house_of" (spHOf CE NH) [] E (tVar 0) (tCons (tVar 2) tNil)) "book") tNil) rfl scTwB.nd rfl rfl (takes_of rfl rfl rfl rfl) (fun _ _ _ _ h => h) (pi_list (pv 1)) (blkOk_by (own := [("name", 2)]) (N := n_scTwB) (sc := defScope s_scTwB) (by decide +kernel)) (fun _ _ _ _ _ _ => pg_name (i := 2) scTwB.nd rfl (.inl rfl)) (fun _ _ _ _ _ _ => pts_nil) (fun _ _ _ _ _ _ => pv 2) (fun _ _ _ _ _ _ ps => pe_meth0 (pe_fld (pe_meth (pv 0) cE MH GH hr bH .nil ps (pa_cons (pv 2) pa_nil)) (by rfl)) cB MN GN hr bN .nil pass0)))), ?_⟩
    refine ⟨_, rfl, l, rfl, ⟨_, SqL.of hl⟩, fun D nD => ?_⟩
    have lD : l ≠ D := fun z => by rw [z, nD] at hl; cases hl
    refine dc_list (K := K) (xs := zs.map V.str) (fun i H' => Same H H' ∧ ∃ W : List Tw, W.map (fun t => t.p.2.name) = zs.take i ∧ TwsAt CB H H' D W L) ⟨same_upd nD, [], by rw [List.take_zero]; rfl, ⟨upd_same, (fun t ht => by cases ht), .nil, (by simp)⟩⟩ (fun i H' _ p => SqL.of (p.1 _ _ hl)) (fun i x H' hx p => ?_) (fun H' p => ?_)
    · obtain ⟨p1, W, w1, w2⟩ := p
      obtain ⟨z, hz, rfl⟩ := map_get hx
      have hzm := List.mem_of_getElem? hz
      have B1 := B.same p1
      refine ⟨rfl, _, rfl, _, rfl, e, edx, _, rfl, B1.obj, rfl, _, rfl, e, edx, hd, pd, L, z, rfl, B1, z100 z hzm, fun p hp hn => ?_, fun hno => qe z hzm hno H' p1⟩
      have ha := (each p hp).same p1
      refine ⟨p.1.a, CH, p.1.dx, _, .ref p.1.b, rfl, ha.obj, cH.cls, cH.book, rfl, p.1.b, p.1.bdx, _, rfl, ha.book.obj, rfl, p.1.b, p.1.bdx, p.1.m, p.1.d, p.1.lv, p.1.ps, p.2.room, p.2.bs, rfl, ha.book, fun a2 dx2 d2 H2 s2 na2 nd2 ea2 ed2 => ?_⟩
      obtain ⟨t, ht⟩ : ∃ t : Tw, (⟨p, a2, dx2, d2⟩ : Tw) = t := ⟨_, rfl⟩
      have tp : t.p = p := by rw [← ht]
      have ta : t.a = a2 := by rw [← ht]
      have td : t.d = d2 := by rw [← ht]
      have tx : t.dx = dx2 := by rw [← ht]
      have eD2 := s2 _ _ w2.dict
      have hi : i < zs.length := (List.getElem?_eq_some_iff.mp hz).1
      have zn : z ∉ zs.take i := fun q => by
        obtain ⟨j, hj⟩ := List.mem_iff_getElem?.mp q
        rw [List.getElem?_take] at hj
        split at hj
        · next h1 =>
          have := (List.getElem?_inj (by omega) znd).mp (hj.trans hz.symm)
          omega
        · cases hj
      have lW : (wkv W).length ≤ i := by
        unfold wkv
        have := congrArg List.length w1
        rw [List.length_map, List.length_take] at this
        rw [List.length_map]
        omega
      have app : putK (wkv W) (Sum.inr z : Key) (.ref a2) = wkv (W ++ [t]) := by
        rw [putK_app]
        · unfold wkv
          rw [List.map_append, List.map_singleton, tp, ta, hn]
        · intro q hq e1
          obtain ⟨t', ht', rfl⟩ := List.mem_map.mp hq
          have e2 : t'.p.2.name = z := Sum.inr.inj e1
          refine zn ?_
          rw [← w1, ← e2]
          exact List.mem_map.mpr ⟨t', ht', rfl⟩
      refine ⟨wkv W, Sum.inr z, rfl, eD2, sml (by omega), same_putA (p1.trans s2) nD, W ++ [t], ?_, ?_⟩
      · rw [List.map_append, w1, List.take_add_one, hz, List.map_singleton, tp, hn]
        rfl
      · rw [app]
        have kD : Kp [D] H2 (upd H2 D (.dK (wkv (W ++ [t])))) := kp_upd (List.mem_singleton.mpr rfl)
        have kt : KTu H2 (upd H2 D (.dK (wkv (W ++ [t])))) := kt_put eD2 (fun xs z => by cases z)
        have a2D : a2 ≠ D := fun z => by rw [z, w2.dict] at na2; cases na2
        have d2D : d2 ≠ D := fun z => by rw [z, w2.dict] at nd2; cases nd2
        have tw : BookAt H2 CB a2 dx2 p.1.m d2 p.1.lv p.1.ps p.2.room p.2.bs := by
          have hb := ha.book.same s2
          exact ⟨ea2, hb.rm, ed2, hb.prs, hb.nd, hb.few, hb.ok, hb.r1, hb.r20⟩
        refine ⟨upd_same, fun t' ht' => ?_, ?_, ?_⟩
        · rcases List.mem_append.mp ht' with q | q
          · obtain ⟨g1, g2, g3, g4⟩ := w2.each t' q
            refine ⟨g1, g2, g3, BookAt.kp kD kt (fun z => ?_) (fun z => ?_) (BookAt.same s2 g4)⟩
            · have := g4.obj
              rw [List.mem_singleton.mp z, w2.dict] at this
              cases this
            · have := w2.nd
              rw [List.nodup_cons] at this
              refine this.1 ?_
              rw [← List.mem_singleton.mp z]
              exact List.mem_map.mpr ⟨t', q, rfl⟩
          · rw [List.mem_singleton.mp q]
            refine ⟨by rw [tp]; exact hp, by rw [ta]; exact p1.free na2, by rw [td]; exact p1.free nd2, ?_⟩
            unfold TwAt
            rw [tp, ta, td, tx]
            exact tw.kp kD kt (fun z => a2D (List.mem_singleton.mp z)) fun z => d2D (List.mem_singleton.mp z)
        · rw [List.map_append, List.map_singleton, ta]
          refine List.nodup_append.mpr ⟨w2.na, by simp, fun x hx y hy e1 => ?_⟩
          obtain ⟨t', ht', rfl⟩ := List.mem_map.mp hx
          have := (w2.each t' ht').2.2.2.obj
          rw [e1, List.mem_singleton.mp hy, na2] at this
          cases this
        · have wn := w2.nd
          rw [List.nodup_cons] at wn
          rw [List.map_append, List.map_singleton, td, List.nodup_cons]
          refine ⟨fun z => ?_, List.nodup_append.mpr ⟨wn.2, by simp, fun x hx y hy e1 => ?_⟩⟩
          · rcases List.mem_append.mp z with q | q
            · exact wn.1 q
            · exact d2D (List.mem_singleton.mp q).symm
          · obtain ⟨t', ht', rfl⟩ := List.mem_map.mp hx
            have := (w2.each t' ht').2.2.2.en
            rw [e1, List.mem_singleton.mp hy, nd2] at this
            cases this
    · obtain ⟨p1, W, w1, w2⟩ := p
      rw [List.length_map, List.take_length] at w1
      exact q D W H' p1 nD w1 w2
theorem ok_keepb {f fH NH : Addr} {fd fdH : FuncData} {k : Nat} (F : Fun K "keep_books" "Estate.keep_books" s_scKeepB f fd) (c : ECls K CE) (cH : HCls K CH)
    (GH : FnOk P w K mg base (L2.CX P w) k fH fdH ["self", "name"] (spHOf CE NH)) (MH : Meth K CE "house_of" fH) (bH : Binds K fdH ["self", "name"] []) : FnOk P w K mg base (L2.CX P w) (k + 1) f fd ["self", "books"] (spKeepB CE CH NH) := by
  have cE := c.cls
  refine F.okX scKeepB (fun vs H Q E h => ?_) (fun cdv A outer s H vs Q E hr h => ?_)
  · obtain ⟨e, edx, hd, pd, D, L, W, rfl, _⟩ := h
    rfl
  · obtain ⟨e, edx, hd, pd, D, L, W, rfl, B, each, hD, hdD, wL, wnd, and, nm, q⟩ := h
    refine ⟨_, (pss_one (ps_lock (ps_for (passes_of rfl) rfl (pi_keys (pv 1)) (pg_name (i := 2) scKeepB.nd rfl (.inl rfl))
  (pss_cons (ps_set (i := 3) scKeepB.nd rfl (.inl rfl) (pe_meth (pv 0) cE MH GH hr bH .nil (passes_call (takes_of rfl rfl rfl rfl) (fun _ _ _ _ h => h)) (pa_cons (pv 2) pa_nil)))
  (pss_one (ps_fld (pv 3) (pe_dget (hu_of hr) (pv 1) (pv 2) (fun _ _ => rfl)) rfl)))))), ?_⟩
    have wa : (W.map (·.p.1.a)).Nodup := by
      rw [List.Nodup, List.pairwise_map] at wnd ⊢
      refine wnd.imp_of_mem fun {x y} hx hy ne e1 => ne ?_
      rw [nodup_inj and x.p (wL x hx) y.p (wL y hy) e1]
    have wkeys : (wkv W).map (·.1) = (W.map fun t => t.p.2.name).map Sum.inr := by
      unfold wkv
      rw [List.map_map, List.map_map]
      rfl
    refine ⟨D, _, hD, trivial, fun od => ?_⟩
    have kt1 : KTu H (upd H D (.frz od (.dK (wkv W)))) := kt_put hD (fun xs z => by cases z)
    have k1 : Kp [D] H (upd H D (.frz od (.dK (wkv W)))) := kp_upd (List.mem_singleton.mpr rfl)
    have eD1 : upd H D (.frz od (.dK (wkv W))) D = some (.frz od (.dK (wkv W))) := upd_same
    generalize upd H D (.frz od (.dK (wkv W))) = H1 at kt1 k1 eD1 ⊢
    have aD : ∀ p ∈ L, p.1.a ≠ D := fun p hp z => by
      have := each p hp
      rw [z, hD] at this
      cases this
    have each1 : ∀ p ∈ L, H1 p.1.a = some (.ins CH p.1.dx (hfl p.2 p.1.b)) := fun p hp => k1 _ _ (fun z => aD p hp (List.mem_singleton.mp z)) (each p hp)
    have eD : e ≠ D := fun z => by
      have := B.obj
      rw [z, hD] at this
      cases this
    have o1 := k1 _ _ (fun z => eD (List.mem_singleton.mp z)) B.obj
    have h1 := k1 _ _ (fun z => hdD (List.mem_singleton.mp z)) B.hs
    refine ⟨_, rfl, D, od, rfl, .inl ⟨wkv W, eD1, ?_⟩⟩
    refine for_it walk_keys (fun i σ H' => ∃ (y2 y3 : Option V), σ = [some (.ref e), some (.ref D), y2, y3] ∧ Kp ((W.take i).map (·.p.1.a)) H1 H' ∧ KTu H1 H' ∧ ∀ t ∈ W.take i, H' t.p.1.a = some (.ins CH t.p.1.dx (hfl t.p.2 t.a)))
      ⟨none, none, rfl, Kp.refl _ _, (fun _ _ h => h), (fun t ht => by simp at ht)⟩ (fun i σ H' _ p => ?_) (fun i x σ H3o H3 hi p y => ?_) (fun σ H3 p => ?_)
    · obtain ⟨_, _, _, k2, _⟩ := p
      refine k2 _ _ (fun z => ?_) eD1
      obtain ⟨t, ht, e1⟩ := List.mem_map.mp z
      exact aD t.p (wL t (List.mem_of_mem_take ht)) e1
    · obtain ⟨y2, y3, rfl, k2, kt2, done⟩ := p
      obtain ⟨rfl, kk, v, hk, rfl⟩ := y
      unfold wkv at hk
      rw [List.getElem?_map] at hk
      cases ht : W[i]? with
      | none => rw [ht] at hk; cases hk
      | some t =>
        rw [ht] at hk
        have hk' : ((Sum.inr t.p.2.name : Key), V.ref t.a) = (kk, v) := Option.some.inj hk
        obtain ⟨rfl, rfl⟩ := Prod.mk.inj hk'
        have tm := List.mem_of_getElem? ht
        have il : i < W.length := (List.getElem?_eq_some_iff.mp ht).1
        have tn : ∀ x ∈ L, x.1.a = t.p.1.a → x.1.a ∉ (W.take i).map (·.p.1.a) := fun x hx ex z => by
          rw [ex, List.map_take] at z
          obtain ⟨j, hj⟩ := List.mem_iff_getElem?.mp z
          rw [List.getElem?_take] at hj
          split at hj
          · next h1 =>
            have hw : (W.map (·.p.1.a))[i]? = some t.p.1.a := by rw [List.getElem?_map, ht]; rfl
            have := (List.getElem?_inj (by rw [List.length_map]; omega) wa).mp (hj.trans hw.symm)
            omega
          · cases hj
        have oD := k2 _ _ (fun z => by
          obtain ⟨t', ht', e1⟩ := List.mem_map.mp z
          exact aD t'.p (wL t' (List.mem_of_mem_take ht')) e1) eD1
        have oe := k2 _ _ (fun z => by
          obtain ⟨t', ht', e1⟩ := List.mem_map.mp z
          have := each1 t'.p (wL t' (List.mem_of_mem_take ht'))
          rw [e1, o1] at this
          exact efl_hfl this) o1
        have oh := k2 _ _ (fun z => by
          obtain ⟨t', ht', e1⟩ := List.mem_map.mp z
          have := each1 t'.p (wL t' (List.mem_of_mem_take ht'))
          rw [e1, h1] at this
          cases this) h1
        have ot := k2 _ _ (tn t.p (wL t tm) rfl) (each1 t.p (wL t tm))
        have B3 : EhAt CE H3 e edx hd pd L := ⟨oe, oh, B.nd, B.few⟩
        refine ⟨_, rfl, e, edx, _, rfl, oe, rfl, _, rfl, e, edx, hd, pd, L, t.p.2.name, rfl, B3, nm t.p (wL t tm), fun p' hp' hn' => ?_, fun hno => absurd (List.mem_map.mpr ⟨t.p, wL t tm, rfl⟩) hno⟩
        have epp : p' = t.p := nodup_inj B.nd p' hp' t.p (wL t tm) hn'
        subst epp
        refine ⟨_, rfl, _, rfl, D, .ref t.a, rfl, dgetR (.inr ⟨od, oD⟩) (valV_get (i := i) (by rw [wkeys]; exact keys_nd wnd) (by unfold wkv; rw [List.getElem?_map, ht]; rfl)), _, rfl, t.p.1.a, CH, t.p.1.dx, _, rfl, ot, cH.cls, cH.book, by show 4 < 1000; decide, ?_⟩
        have tk : (W.take (i + 1)).map (·.p.1.a) = (W.take i).map (·.p.1.a) ++ [t.p.1.a] := by
          rw [List.take_add_one, ht, List.map_append]
          rfl
        refine ⟨_, _, rfl, ?_, fun x xs hx => ?_, fun t' ht' => ?_⟩
        · rw [tk]
          intro x o nx ex
          rw [upd_ne (fun z => nx (by rw [z]; simp))]
          exact k2 _ _ (fun z => nx (List.mem_append_left _ z)) ex
        · rw [upd_ne (fun z => by
            have := kt2 _ _ hx
            rw [z, ot] at this
            cases this)]
          exact kt2 _ _ hx
        · rw [List.take_add_one, ht] at ht'
          rcases List.mem_append.mp ht' with z | z
          · rw [upd_ne (fun e1 => tn t.p (wL t tm) rfl (by rw [← e1]; exact List.mem_map.mpr ⟨t', z, rfl⟩))]
            exact done t' z
          · have : t' = t := by simpa using z
            rw [this, upd_same]
            rfl
    · obtain ⟨y2, y3, rfl, k2, kt2, done⟩ := p
      have lk : (wkv W).length = W.length := by unfold wkv; rw [List.length_map]
      rw [lk, List.take_length] at k2 done
      refine ⟨?_, q _ (fun x o nx ex => ?_) (fun x xs hx => ?_) fun t ht => ?_⟩
      · refine k2 _ _ (fun z => ?_) eD1
        obtain ⟨t, ht, e1⟩ := List.mem_map.mp z
        exact aD t.p (wL t ht) e1
      · by_cases xD : x = D
        · rw [xD, upd_same]
          rw [xD, hD] at ex
          exact ex
        · rw [upd_ne xD]
          exact k2 _ _ nx (k1 _ _ (fun z => xD (List.mem_singleton.mp z)) ex)
      · rw [upd_ne (fun z => by rw [z, hD] at hx; cases hx)]
        exact kt2 _ _ (kt1 _ _ hx)
      · rw [upd_ne (aD t.p (wL t ht))]
        exact done t ht
end
end My
set_option maxHeartbeats 1000000
namespace My
open PySem PySem.Spec PyProof.Rows L2 GX GxR
end My
set_option maxHeartbeats 1000000
namespace My
open PySem PySem.Spec PyProof.Rows L2 GX GxR
abbrev s_scTimes : Stmt := topS 6
abbrev n_scTimes : List Str := ["one", "n", "a"]
theorem scTimes : FnScope n_scTimes ["one", "n"] (defScope s_scTimes) := ⟨rfl, rfl, rfl, by decide +kernel, rfl, by decide +kernel, by decide +kernel⟩
abbrev s_scBook : Stmt := methS 28 4
abbrev n_scBook : List Str := ["self", "gang", "placing", "begin", "name", "guild", "rank", "many", "want", "how", "length", "house", "n", "books"]
theorem scBook : FnScope n_scBook ["self", "gang", "placing", "begin"] (defScope s_scBook) := ⟨rfl, rfl, rfl, by decide +kernel, rfl, by decide +kernel, by decide +kernel⟩
section
variable {P : Program} {w : World} {K : PySem.W.Frag} {mg : Str → Option Value} {base : Heap} {CE CH CB : Addr}
theorem ok_times {f : Addr} {fd : FuncData} {k : Nat} (F : Fun K "amount_times" "amount_times" s_scTimes f fd) (X : Txt mg) : FnOk P w K mg base CX0 (k + 1) f fd ["one", "n"] (spTimesS K) := by
  refine F.ok scTimes (fun vs H Q E h => ?_) (fun cdv A outer s H vs Q E hr h => ?_)
  · obtain ⟨a, n, xs, rfl, _⟩ := h
    rfl
  · obtain ⟨a, n, xs, rfl, hX, hl, n0, n1, q⟩ := h
    refine ⟨_, (pss_one (ps_ret (pe_callTy call_tuple_of (by rfl) X.tup bt_tuple (pa_cons (pe_lc (own := [("a", 2)]) (g := (gName 2)) (tt := tYes) rfl scTimes.nd (pi_tup (pv 0)) (blkOk_by (own := [("a", 2)]) (N := n_scTimes) (sc := defScope s_scTimes) (by decide +kernel)) (fun _ _ _ _ _ => (pg_name (i := 2) scTimes.nd rfl (.inl rfl))) (fun _ _ _ _ _ => pts_nil) (fun _ _ _ _ _ => (pe_op op_mul (pv 2) (pv 1)))) pa_nil)))), ?_⟩
    refine ⟨_, rfl, a, rfl, ⟨_, hX⟩, fun D nD => ?_⟩
    refine lc_tup (K := K) (a := a) (xs := xs.map V.int) (fun i H' => Same H H' ∧ H' D = some (.lst (((xs.map (· * n)).take i).map V.int))) ⟨same_upd nD, upd_same⟩ (fun i H' _ p => same_seqT p.1 hX) (fun i v H3 hv p => ?_) (fun H3 p => ?_)
    · obtain ⟨p1, p2⟩ := p
      obtain ⟨x, hx, rfl⟩ := get_int hv
      have hi2 : i < xs.length := (List.getElem?_eq_some_iff.mp hx).1
      refine ⟨rfl, ?_⟩
      refine ⟨_, rfl, _, rfl, x, n, rfl, rfl, .inr ⟨by omega, by omega⟩, _, p2, ?_, same_putA p1 nD, ?_⟩
      · rw [List.length_map, List.length_take, List.length_map]
        exact small1000 (by omega)
      · rw [upd_same, List.take_add_one, List.getElem?_map, hx, List.map_append]
        rfl
    · obtain ⟨p1, p2⟩ := p
      rw [List.take_of_length_le (by rw [List.length_map, List.length_map]; exact Nat.le_refl _)] at p2
      refine ⟨D, _, rfl, .inl ⟨SqL.of p2, fun d nd => ?_⟩⟩
      exact q d _ (p1.trans (same_upd nd)) (p1.free nd) upd_same
theorem ok_book {f fI fT fM fU fB fK TK NH TM : Addr} {fd fdI fdT fdM fdU fdB fdK : FuncData} {k : Nat} {Ts : List Addr} (F : Fun K "book_gang" "Estate.book_gang" s_scBook f fd) (c : ECls K CE) (cH : HCls K CH) (cBk : BCls K CB) (mSorted : mg "sorted" = none) (xTaken : ExcP K mg "Taken" TK)
    (GI : FnOk P w K mg base CX0 k fI fdI ["self", "name"] (spIsB CE)) (MI : Meth K CE "is_booked" fI) (bI : Binds K fdI ["self", "name"] [])
    (GT : FnOk P w K mg base (L2.CX P w) k fT fdT ["self", "names"] (spTwB CE CH CB NH)) (MT : Meth K CE "twin_books" fT) (bT : Binds K fdT ["self", "names"] [])
    (GM : FnOk P w K mg base CX0 k fM fdM ["one", "n"] (spTimesS K)) (mM : mg "amount_times" = some (.ref fM)) (kM : PySem.W.keepIn K (.ref fM) = true) (bM : L2.Binds K fdM ["one", "n"] [])
    (GU : FnOk P w K mg base (L2.CX P w) k fU fdU ["self", "key", "begin", "end", "amount"] (spPut K Ts CB TM TK)) (MU : Meth K CB "put_entry" fU) (bU : Binds K fdU ["self", "key", "begin", "end", "amount"] [])
    (GB : FnOk P w K mg base (L2.CX P w) k fB fdB ["self", "books"] (spKeepB CE CH NH)) (MB : Meth K CE "keep_books" fB) (bB : Binds K fdB ["self", "books"] [])
    (GK : FnOk P w K mg base CX0 k fK fdK ["self", "name", "pairs"] (spKeepP K CE)) (MK : Meth K CE "keep_placing" fK) (bK : Binds K fdK ["self", "name", "pairs"] []) : FnOk P w K mg base (L2.CX P w) (k + 1) f fd ["self", "gang", "placing", "begin"] (spBookL CE CH CB TK NH TM Ts) := by
  have cE := c.cls
  have cB := cBk.cls
  refine F.okX scBook (fun vs H Q E h => ?_) (fun cdv A outer s H vs Q E hr h => ?_)
  · obtain ⟨e, edx, hd, pd, gt, pt, wt, pps, L, z, gd, hw, rk, mn, ln, bg, want, pl, rfl, _⟩ := h
    rfl
  · obtain ⟨e, edx, hd, pd, gt, pt, wt, pps, L, z, gd, hw, rk, mn, ln, bg, want, pl, rfl, B, tH, hgt, hwt, hpl, ok, q1, q2⟩ := h
    refine ⟨_, (pss_cons (ps_asg (pv 1) (pg_tup rfl (pgs_cons (pg_name (i := 4) scBook.nd rfl (.inl rfl)) (pgs_cons (pg_name (i := 5) scBook.nd rfl (.inl rfl)) (pgs_cons (pg_name (i := 6) scBook.nd rfl (.inl rfl)) (pgs_cons (pg_name (i := 7) scBook.nd rfl (.inl rfl)) (pgs_cons (pg_name (i := 8) scBook.nd rfl (.inl rfl)) (pgs_cons (pg_name (i := 9) scBook.nd rfl (.inl rfl)) (pgs_cons (pg_name (i := 10) scBook.nd rfl (.inl rfl)) pgs_nil)))))))))
(C8.pss_cut (ps_if (pt_val (pe_meth (pv 0) cE MI GI hr bI .nil pass0 (pa_cons (pv 4) pa_nil)))
  (pss_one (ps_raise rfl (takes_of rfl rfl rfl rfl) (SkE.pmk_own1 PySem.F.excBase_ValueError xTaken.x xTaken.g xTaken.k (raises_own xTaken.b xTaken.t) rfl (pe_joined (PJ.cons pe_str (PJ.cons (pe_fmt (pv 4)) (PJ.cons pe_str PJ.nil)))))))
  pss_nil)
(pss_cons (ps_set (i := 13) scBook.nd rfl (.inl rfl) (pe_meth (pv 0) cE MT GT hr bT .nil (passes_call (takes_of rfl rfl rfl rfl) (fun _ _ _ _ h => h)) (pa_cons (pe_lc (own := [("house", 11), ("n", 12)]) (g := (gTup K 2 (gCons (gName 11) (gCons (gName 12) gNil)))) (tt := tYes) rfl scBook.nd (pi_tup (pv 2)) (blkOk_by (own := [("house", 11), ("n", 12)]) (N := n_scBook) (sc := defScope s_scBook) (by decide +kernel)) (fun _ _ _ _ _ => (pg_tup rfl (pgs_cons (pg_name (i := 11) scBook.nd rfl (.inl rfl)) (pgs_cons (pg_name (i := 12) scBook.nd rfl (.inl rfl)) pgs_nil)))) (fun _ _ _ _ _ => pts_nil) (fun _ _ _ _ _ => (pv 11))) pa_nil)))
(C8.pss_cut (ps_for (passes_of rfl) rfl (pi_list (pe_callB (SX.cr_sortDtT hr.units) (by rfl) mSorted (by decide +kernel) (pa_cons (pv 2) pa_nil))) (pg_tup rfl (pgs_cons (pg_name (i := 11) scBook.nd rfl (.inl rfl)) (pgs_cons (pg_name (i := 12) scBook.nd rfl (.inl rfl)) pgs_nil)))
  (pss_one (ps_expr (pe_meth (pe_dget (hu_of hr) (pv 13) (pv 11) (fun _ _ => rfl)) cB MU GU hr bU .nil (passes_call (takes_of rfl rfl rfl rfl) (fun _ _ _ _ h => h)) (pa_cons (pv 4) (pa_cons (pv 3) (pa_cons (pe_op op_add (pv 3) (pv 10)) (pa_cons (pe_call GM hr (by rfl) mM kM bM .nil pass0 (pa_cons (pv 8) (pa_cons (pv 12) pa_nil))) pa_nil))))))))
(pss_cons (ps_expr (pe_meth (pv 0) cE MB GB hr bB .nil (passes_call (takes_of rfl rfl rfl rfl) (fun _ _ _ _ h => h)) (pa_cons (pv 13) pa_nil)))
(pss_one (ps_expr (pe_meth (pv 0) cE MK GK hr bK .nil pass0 (pa_cons (pv 4) (pa_cons (pe_callB (SX.cr_sortDtT hr.units) (by rfl) mSorted (by decide +kernel) (pa_cons (pv 2) pa_nil)) pa_nil)))))))))), ?_⟩
    refine ⟨_, rfl, gt, _, rfl, SqT.of hgt, rfl, _, _, rfl, _, _, rfl, _, _, rfl, _, _, rfl, _, _, rfl, _, _, rfl, _, _, rfl, rfl, ?_⟩
    refine ⟨fun σ H' => σ = [some (.ref e), some (.ref gt), some (.ref pt), some (.int bg), some (.str z), some (.str gd), some (.int rk), some (.int mn), some (.ref wt), some (.str hw), some (.int ln), none, none, none] ∧ H' = H ∧ valV pps (Sum.inr z : Key) = none, ?_, fun σ H' hm => ?_⟩
    · refine ⟨_, rfl, e, edx, _, rfl, B.obj, rfl, _, rfl, e, edx, hd, pd, pps, z, rfl, B.obj, B.pl, _, rfl, ite2 (fun hb => ?_) (fun hb => ?_)⟩
      · cases hv : valV pps (Sum.inr z : Key) with
        | none => rw [hv] at hb; cases hb
        | some v =>
          refine ⟨_, rfl, by decide +kernel, _, rfl, .inl ⟨z, rfl, ?_, _, rfl, ?_, ?_⟩⟩
          · exact Nat.le_trans ok.key (by decide)
          · rw [Str.length_append]
            exact Nat.le_trans (Nat.add_le_add_left ok.key _) (by decide +kernel)
          · refine ⟨_, rfl, ?_, q1 (B.booked hv)⟩
            rw [Str.length_append, Str.length_append]
            exact Nat.le_trans (Nat.add_le_add_right (Nat.add_le_add_left ok.key _) _) (by decide +kernel)
      · cases hv : valV pps (Sum.inr z : Key) with
        | none => exact ⟨rfl, rfl, rfl⟩
        | some v => rw [hv] at hb; exact absurd rfl hb
    obtain ⟨rfl, hH, hnb⟩ := hm
    rw [hH]
    clear hH
    have nbk := B.not_booked hnb
    obtain ⟨qn, q3⟩ := q2 nbk
    clear q1 q2
    obtain ⟨us, hu, hpv⟩ := _root_.id hpl
    have lus : us.length = pl.length := hpv.len
    -- the names
    refine ⟨_, rfl, e, edx, _, rfl, B.obj, rfl, _, rfl, pt, rfl, ⟨_, .inl hu⟩, fun D nD => ?_⟩
    refine lc_tup (K := K) (xs := us) (fun i H' => Same H H' ∧ H' D = some (.lst (((pl.map (·.1)).take i).map V.str))) ⟨same_upd nD, by rw [List.take_zero]; exact upd_same⟩ (fun i H' _ p => .inl (rd_sameE p.1 hu)) (fun i x H' hx p => ?_) (fun H1 pm => ?_)
    · obtain ⟨p1, p2⟩ := p
      have hi : i < pl.length := by
        have := (List.getElem?_eq_some_iff.mp hx).1
        omega
      obtain ⟨q0, hq0⟩ : ∃ q0, pl[i]? = some q0 := ⟨pl[i], List.getElem?_eq_getElem hi⟩
      obtain ⟨t0, ht0, hq1⟩ := hpv.at i q0 hq0
      rw [hx] at ht0
      obtain rfl : x = .ref t0 := Option.some.inj ht0
      refine ⟨t0, _, rfl, SqT.of (p1 _ _ hq1), rfl, _, _, rfl, _, _, rfl, rfl, rfl, _, rfl, _, p2, ?_, same_putA p1 nD, ?_⟩
      · have := ok.l60
        rw [List.length_map, List.length_take, List.length_map]
        exact sml (by omega)
      · rw [upd_same, List.take_add_one, List.getElem?_map, hq0, List.map_append]
        rfl
    obtain ⟨p1, p2⟩ := pm
    rw [lus, List.take_of_length_le (by rw [List.length_map]; exact Nat.le_refl _)] at p2
    have B1 := B.same p1
    dsimp only [tNil]
    refine ⟨e, edx, hd, pd, D, L, pl.map (·.1), rfl, B1.eh, B1.each, p2, ok.nd, by rw [List.length_map]; exact ok.l60, fun y hy => ?_, fun Db W H2 s2 nDb wz tw => ?_, fun y hy hno H' s' => qn y hy hno H' (p1.trans s')⟩
    · obtain ⟨q, hq, rfl⟩ := List.mem_map.mp hy
      exact (ok.nm q hq).1
    have s12 : Same H H2 := p1.trans s2
    have B2 := B.same s12
    have all : ∀ h ∈ pl.map (·.1), h ∈ names L := fun h hh => by
      rw [← wz] at hh
      obtain ⟨t, ht, rfl⟩ := List.mem_map.mp hh
      exact List.mem_map.mpr ⟨t.p, (tw.each t ht).1, rfl⟩
    have freshH : ∀ x ∈ W.map (·.a) ++ W.map (·.d), H x = none := fun x hx => by
      rcases List.mem_append.mp hx with y | y
      · obtain ⟨t, ht, rfl⟩ := List.mem_map.mp y
        exact p1.free (tw.each t ht).2.1
      · obtain ⟨t, ht, rfl⟩ := List.mem_map.mp y
        exact p1.free (tw.each t ht).2.2.1
    have wnd : (W.map fun t => t.p.2.name).Nodup := by rw [wz]; exact ok.nd
    have wkeys : (wkv W).map (·.1) = (W.map fun t => t.p.2.name).map Sum.inr := by
      unfold wkv
      rw [List.map_map, List.map_map]
      rfl
    have tH2 : Tabs Ts H2 := (Fw.same tH s12).tabs
    have dbN := tw.nd
    rw [List.nodup_cons] at dbN
    have DbS : Db ∉ W.map (·.a) ++ W.map (·.d) := fun y => by
      rcases List.mem_append.mp y with y | y
      · obtain ⟨t, ht, e1⟩ := List.mem_map.mp y
        have := (tw.each t ht).2.2.2.obj
        rw [e1, tw.dict] at this
        cases this
      · exact dbN.1 y
    have DbT : Db ∉ Ts := tab_off tH2 tw.dict fun ps y => by cases y
    have offT : ∀ {x : Addr} {o : HO}, H2 x = some o → (∀ ps, o ≠ .tbl ps) → x ∉ Ts := fun {x o} hx no => tab_off tH2 hx no
    -- what is known of a house that is booked
    have keepOk : ∀ t ∈ W, ∀ q ∈ pl, t.p.2.name = q.1 → z ∉ t.p.2.bs.map (·.key) ∧ withX t.p.2.bs (xOf z bg (bg + ln) want q.2) = t.p.2.bs ++ [xOf z bg (bg + ln) want q.2] ∧ putR t.p.2.bs (xOf z bg (bg + ln) want q.2) = t.p.2.bs ++ [xOf z bg (bg + ln) want q.2] ∧
        BwOk t.p.2.room.length (t.p.2.bs ++ [xOf z bg (bg + ln) want q.2]) ∧ t.p.2.bs.length < 100 := fun t ht q hq hn => by
      obtain ⟨tL, _, _, tb⟩ := tw.each t ht
      have mL : t.p.2 ∈ L.map (·.2) := List.mem_map.mpr ⟨t.p, tL, rfl⟩
      have nk : z ∉ t.p.2.bs.map (·.key) := fun y => by
        obtain ⟨x, hx, hk⟩ := List.mem_map.mp y
        obtain ⟨em, hem, rfl⟩ := List.mem_map.mp hx
        exact nbk ⟨t.p.2, mL, em, hem, hk⟩
      have few : t.p.2.bs.length < 100 := by
        have := ok.few t.p.2 mL
        unfold Hm.bs
        rw [List.length_map]
        exact this
      refine ⟨nk, ?_, ?_, ⟨?_, fun x hx => ?_, fun x hx => ?_⟩, few⟩
      · show t.p.2.bs.filter (fun y => decide (y.key ≠ z)) ++ [xOf z bg (bg + ln) want q.2] = _
        exact congrArg (· ++ [xOf z bg (bg + ln) want q.2]) (List.filter_eq_self.mpr fun y hy => decide_eq_true fun e1 => nk (List.mem_map.mpr ⟨y, hy, e1⟩))
      · exact if_neg nk
      · rw [List.length_append, List.length_singleton]
        omega
      · rcases List.mem_append.mp hx with y | y
        · exact tb.ok.lt x y
        · rw [List.mem_singleton.mp y]
          exact ok.lt
      · rcases List.mem_append.mp hx with y | y
        · exact tb.ok.len x y
        · rw [List.mem_singleton.mp y]
          show (want.map (· * q.2)).length = _
          rw [List.length_map]
          exact (ok.wl t.p.2 mL).symm
    refine ⟨fun σ H' => ∃ (y11 y12 : Option V), σ = [some (.ref e), some (.ref gt), some (.ref pt), some (.int bg), some (.str z), some (.str gd), some (.int rk), some (.int mn), some (.ref wt), some (.str hw), some (.int ln), y11, y12, some (.ref Db)] ∧ Kp ((W.map (·.a) ++ W.map (·.d)) ++ Ts) H2 H' ∧ Tabs Ts H' ∧ (∀ t ∈ W, ∀ q ∈ pl, t.p.2.name = q.1 → OverP t.p.2.room t.p.2.bs (xOf z bg (bg + ln) want q.2) none ∧ ∃ ps', BookAt H' CB t.a t.dx t.p.1.m t.d .non ps' t.p.2.room (t.p.2.bs ++ [xOf z bg (bg + ln) want q.2])), ?_, fun σ H3 pm => ?_⟩
    · refine ⟨_, rfl, ?_⟩
      dsimp (config := { proj := false }) only [tNil]
      refine sort_prs (.inl (rd_sameE s12 hu)) (hpv.same s12) fun l vs ps perm so nl pvs => ?_
      have s3 : Same H2 (upd H2 l (.lst vs)) := same_upd nl
      have el : upd H2 l (.lst vs) l = some (.lst vs) := upd_same
      have pvs3 := pvs.same s3
      generalize upd H2 l (.lst vs) = H3 at s3 el pvs3 ⊢
      have tH3 : Tabs Ts H3 := (Fw.same tH2 s3).tabs
      have lvs : vs.length = ps.length := pvs.len
      have psnd : (ps.map (·.1)).Nodup := (perm.map _).nodup_iff.mpr ok.nd
      obtain ⟨qfit, qover⟩ := q3 ps perm so all
      have lS : l ∉ (W.map (·.a) ++ W.map (·.d)) ++ Ts := fun y => by
        rcases List.mem_append.mp y with y | y
        · rcases List.mem_append.mp y with y | y
          · obtain ⟨t, ht, e1⟩ := List.mem_map.mp y
            have := (tw.each t ht).2.2.2.obj
            rw [e1, nl] at this
            cases this
          · obtain ⟨t, ht, e1⟩ := List.mem_map.mp y
            have := (tw.each t ht).2.2.2.en
            rw [e1, nl] at this
            cases this
        · obtain ⟨pp, h1, _⟩ := tH2 l y
          rw [nl] at h1
          cases h1
      refine ⟨l, rfl, ⟨_, SqL.of el⟩, ?_⟩
      refine for_list (K := K) (xs := vs) (fun i σ H' => ∃ (y11 y12 : Option V), σ = [some (.ref e), some (.ref gt), some (.ref pt), some (.int bg), some (.str z), some (.str gd), some (.int rk), some (.int mn), some (.ref wt), some (.str hw), some (.int ln), y11, y12, some (.ref Db)] ∧ Kp ((W.map (·.a) ++ W.map (·.d)) ++ Ts) H3 H' ∧ Tabs Ts H' ∧ (∀ t ∈ W, ∀ q ∈ ps.take i, t.p.2.name = q.1 → OverP t.p.2.room t.p.2.bs (xOf z bg (bg + ln) want q.2) none ∧ ∃ ps', BookAt H' CB t.a t.dx t.p.1.m t.d .non ps' t.p.2.room (t.p.2.bs ++ [xOf z bg (bg + ln) want q.2])) ∧ (∀ t ∈ W, t.p.2.name ∉ (ps.take i).map (·.1) → TwAt CB H' t))
        ⟨none, none, rfl, Kp.refl _ _, tH3, (fun t ht q hq => by simp at hq), fun t ht _ => BookAt.same s3 (tw.each t ht).2.2.2⟩ (fun i σ H' _ p => ?_) (fun i x σ H' hx p => ?_) (fun σ H' p => ?_)
      · obtain ⟨_, _, _, k1, _⟩ := p
        exact SqL.of (k1 _ _ lS el)
      · obtain ⟨y11, y12, rfl, k1, t1, done, rest⟩ := p
        have hi : i < ps.length := by
          have := (List.getElem?_eq_some_iff.mp hx).1
          omega
        obtain ⟨q0, hq0⟩ : ∃ q0, ps[i]? = some q0 := ⟨ps[i], List.getElem?_eq_getElem hi⟩
        obtain ⟨t0, ht0, hq1⟩ := pvs3.at i q0 hq0
        rw [hx] at ht0
        obtain rfl : x = .ref t0 := Option.some.inj ht0
        have q0pl : q0 ∈ pl := perm.mem_iff.mp (List.mem_of_getElem? hq0)
        have kinds : ∀ y ∈ (W.map (·.a) ++ W.map (·.d)) ++ Ts, ∀ xs, H3 y ≠ some (.tup xs) := fun y hy xs e1 => by
          rcases List.mem_append.mp hy with y1 | y1
          · rcases List.mem_append.mp y1 with y1 | y1
            · obtain ⟨t, ht, e2⟩ := List.mem_map.mp y1
              have := s3 _ _ (tw.each t ht).2.2.2.obj
              rw [e2, e1] at this
              cases this
            · obtain ⟨t, ht, e2⟩ := List.mem_map.mp y1
              have := s3 _ _ (tw.each t ht).2.2.2.en
              rw [e2, e1] at this
              cases this
          · obtain ⟨pp, h1, _⟩ := tH3 y y1
            rw [e1] at h1
            cases h1
        have kt1 : KTu H3 H' := fun y xs e1 => k1 _ _ (fun hy => kinds y hy xs e1) e1
        obtain ⟨tt, htt, htn⟩ : ∃ tt ∈ W, tt.p.2.name = q0.1 := by
          have : q0.1 ∈ W.map (fun t => t.p.2.name) := by
            rw [wz]
            exact List.mem_map.mpr ⟨q0, q0pl, rfl⟩
          obtain ⟨tt, h1, h2⟩ := List.mem_map.mp this
          exact ⟨tt, h1, h2⟩
        have notyet : tt.p.2.name ∉ (ps.take i).map (·.1) := fun y => by
          rw [htn, List.map_take] at y
          obtain ⟨j, hj⟩ := List.mem_iff_getElem?.mp y
          rw [List.getElem?_take] at hj
          split at hj
          · next h1 =>
            have hw' : (ps.map (·.1))[i]? = some q0.1 := by rw [List.getElem?_map, hq0]; rfl
            have := (List.getElem?_inj (by rw [List.length_map]; omega) psnd).mp (hj.trans hw'.symm)
            omega
          · cases hj
        have bt := rest tt htt notyet
        have eDb := k1 _ _ (fun y => (List.mem_append.mp y).elim DbS DbT) (s3 _ _ tw.dict)
        obtain ⟨j, hj⟩ := List.mem_iff_getElem?.mp htt
        have vv : valV (wkv W) (Sum.inr q0.1 : Key) = some (.ref tt.a) := by
          rw [← htn]
          exact valV_get (i := j) (by rw [wkeys]; exact keys_nd wnd) (by unfold wkv; rw [List.getElem?_map, hj]; rfl)
        obtain ⟨n1, n2, n3, n4, n5⟩ := keepOk tt htt q0 q0pl htn
        obtain ⟨tL, _, _, tb⟩ := tw.each tt htt
        have mL : tt.p.2 ∈ L.map (·.2) := List.mem_map.mpr ⟨tt.p, tL, rfl⟩
        have wt' := kt1 _ _ (s3 _ _ (s12 _ _ hwt))
        have lwant : want.length ≤ 20 := by
          rw [← ok.wl tt.p.2 mL]
          exact tb.r20
        refine ⟨t0, _, rfl, SqT.of (kt1 _ _ hq1), rfl, _, _, rfl, _, _, rfl, rfl, ?_⟩
        refine ⟨_, rfl, _, rfl, Db, .ref tt.a, rfl, dgetR (Rd.of eDb) vv, tt.a, tt.dx, _, rfl, bt.obj, rfl, _, rfl, _, rfl, _, rfl, _, rfl, _, _, rfl, rfl, ?_⟩
        refine ⟨_, rfl, _, rfl, wt, q0.2, want, rfl, SqT.of wt', by omega, (ok.many q0 q0pl).1, (ok.many q0 q0pl).2, fun pa H4 s4 npa epa => ?_⟩
        refine ⟨tt.a, tt.dx, tt.p.1.m, tt.d, tt.p.1.lv, tt.p.1.ps, tt.p.2.room, tt.p.2.bs, pa, xOf z bg (bg + ln) want q0.2, rfl, BookAt.same s4 bt, epa, ok.key, fun hin => absurd hin n1, fun _ => ?_⟩
        have fH3 : Fw Ts H H3 := Fw.same tH (s12.trans s3)
        have fH4 : Fw Ts H H4 := (fresh_fw fH3 k1 freshH t1).then s4
        have t4 : Tabs Ts H4 := fH4.tabs
        have fitsOf : ∀ t ∈ W, t.p.2.name = q0.1 → t = tt := fun t ht hn => by
          have hp : t.p = tt.p := nodup_inj B.nd t.p (tw.each t ht).1 tt.p tL (hn.trans htn.symm)
          exact nodup_inj wnd t ht tt htt (by rw [hp])
        refine ⟨ok.key, by rw [n2]; exact n4, by rw [n3, List.length_append, List.length_singleton]; omega, by rw [n3]; exact n4, B.good.nn tt.p.2 mL, fun y hy => ?_, t4, fun H5 ks ps' srt fnd k5 t5 b5 => ?_, fun H5 ks tov dE srt fnd f5 ndE edE => ?_⟩
        · rw [n2] at hy
          rcases List.mem_append.mp hy with y1 | y1
          · obtain ⟨em, hem, rfl⟩ := List.mem_map.mp y1
            exact ok.eb tt.p.2 mL em hem
          · rw [List.mem_singleton.mp y1]
            exact ok.bnd
        · rw [n3] at b5
          have k45 : Kp (tt.a :: tt.d :: Ts) H' H5 := (Same.kp _ s4).trans k5
          have kt5 : KTu H' H5 := fun y xs e1 => k45 _ _ (fun hy => by
            rcases List.mem_cons.mp hy with y1 | hy
            · have := bt.obj
              rw [← y1, e1] at this
              cases this
            · rcases List.mem_cons.mp hy with y1 | y1
              · have := bt.en
                rw [← y1, e1] at this
                cases this
              · obtain ⟨pp, h1, _⟩ := t1 y y1
                rw [e1] at h1
                cases h1) e1
          have keepTw : ∀ t ∈ W, t.p.2.name ≠ tt.p.2.name → ∀ {lv : V} {pp : List (Key × V)} {rs : List Bw}, BookAt H' CB t.a t.dx t.p.1.m t.d lv pp t.p.2.room rs → BookAt H5 CB t.a t.dx t.p.1.m t.d lv pp t.p.2.room rs := fun t ht ne {lv pp rs} b => by
            have tne : t ≠ tt := fun e1 => ne (by rw [e1])
            refine b.kp k45 kt5 (fun hy => ?_) fun hy => ?_
            · rcases List.mem_cons.mp hy with y1 | hy
              · exact tne (nodup_inj tw.na t ht tt htt y1)
              · rcases List.mem_cons.mp hy with y1 | y1
                · have := b.obj
                  rw [y1, bt.en] at this
                  cases this
                · obtain ⟨p9, h1, _⟩ := t1 _ y1
                  rw [b.obj] at h1
                  cases h1
            · rcases List.mem_cons.mp hy with y1 | hy
              · have := b.en
                rw [y1, bt.obj] at this
                cases this
              · rcases List.mem_cons.mp hy with y1 | y1
                · exact tne (nodup_inj dbN.2 t ht tt htt y1)
                · obtain ⟨p9, h1, _⟩ := t1 _ y1
                  rw [b.en] at h1
                  cases h1
          have tk : ps.take (i + 1) = ps.take i ++ [q0] := by
            rw [List.take_add_one, hq0]
            rfl
          refine ⟨_, _, rfl, k1.trans (k45.mono fun y hy => ?_), t5, fun t ht q hq hn => ?_, fun t ht hno => ?_⟩
          · rcases List.mem_cons.mp hy with y1 | hy
            · rw [y1]
              exact List.mem_append_left _ (List.mem_append_left _ (List.mem_map.mpr ⟨tt, htt, rfl⟩))
            · rcases List.mem_cons.mp hy with y1 | y1
              · rw [y1]
                exact List.mem_append_left _ (List.mem_append_right _ (List.mem_map.mpr ⟨tt, htt, rfl⟩))
              · exact List.mem_append_right _ y1
          · rw [tk] at hq
            rcases List.mem_append.mp hq with y1 | y1
            · obtain ⟨g1, pp, g2⟩ := done t ht q y1 hn
              refine ⟨g1, pp, keepTw t ht (fun e1 => notyet ?_) g2⟩
              rw [← e1, hn]
              exact List.mem_map.mpr ⟨q, y1, rfl⟩
            · have := List.mem_singleton.mp y1
              subst this
              have := fitsOf t ht hn
              subst this
              exact ⟨⟨ks, srt, fnd⟩, ps', b5⟩
          · rw [tk, List.map_append] at hno
            refine keepTw t ht (fun e1 => hno ?_) (rest t ht fun y1 => hno (List.mem_append_left _ y1))
            rw [e1, htn]
            exact List.mem_append_right _ (by simp)
        · refine qover H5 i q0 tov dE hq0 (fun j q' hj hq' p hp hn => ?_) (fun p hp hn => ?_) (fH4.trans f5) (fH4.free tH ndE) edE
          · have q'pl : q' ∈ pl := perm.mem_iff.mp (List.mem_of_getElem? hq')
            have : q'.1 ∈ W.map (fun t => t.p.2.name) := by
              rw [wz]
              exact List.mem_map.mpr ⟨q', q'pl, rfl⟩
            obtain ⟨t, ht, htn'⟩ := List.mem_map.mp this
            have hp' : t.p = p := nodup_inj B.nd t.p (tw.each t ht).1 p hp (htn'.trans hn.symm)
            have := (done t ht q' (List.mem_of_getElem? (by rw [List.getElem?_take, if_pos hj]; exact hq')) htn').1
            rw [hp'] at this
            exact this
          · have : p = tt.p := nodup_inj B.nd p hp tt.p tL (hn.trans htn.symm)
            rw [this]
            exact ⟨ks, srt, fnd⟩
      · obtain ⟨y11, y12, rfl, k1, t1, done, rest⟩ := p
        rw [lvs, List.take_length] at done
        exact ⟨y11, y12, rfl, (Same.kp _ s3).trans k1, t1, fun t ht q hq hn => done t ht q (perm.mem_iff.mpr hq) hn⟩
    obtain ⟨y11, y12, rfl, k3, t3, done⟩ := pm
    have notS : ∀ {x : Addr} {o : HO}, H x = some o → (∀ ps, o ≠ .tbl ps) → x ∉ (W.map (·.a) ++ W.map (·.d)) ++ Ts := fun {x o} hx no hy => by
      rcases List.mem_append.mp hy with y | y
      · rw [freshH x y] at hx
        cases hx
      · exact offT (s12 _ _ hx) no y
    have to3 : ∀ {x : Addr} {o : HO}, H x = some o → (∀ ps, o ≠ .tbl ps) → H3 x = some o := fun {x o} hx no => k3 _ _ (notS hx no) (s12 _ _ hx)
    have o3 : H3 e = some (.ins CE edx (efl hd pd)) := to3 B.obj fun ps y => by cases y
    have h3 : H3 hd = some (.dK (hkv L)) := to3 B.hs fun ps y => by cases y
    have p3 : H3 pd = some (.dK pps) := to3 B.pl fun ps y => by cases y
    have a3 : ∀ p ∈ L, H3 p.1.a = some (.ins CH p.1.dx (hfl p.2 p.1.b)) := fun p hp => to3 (B.each p hp).obj fun ps y => by cases y
    have Db3 := k3 _ _ (fun y => (List.mem_append.mp y).elim DbS DbT) tw.dict
    have hdDb : hd ≠ Db := fun y => by
      have := p1 _ _ B.hs
      rw [y, nDb] at this
      cases this
    obtain ⟨inS, eS, hdS, pdS, sd2, hdpd⟩ := B.bd
    refine ⟨_, rfl, e, edx, _, rfl, o3, rfl, _, rfl, e, edx, hd, pd, Db, L, W, rfl, ⟨o3, h3, B.nd, B.eh.few⟩, a3, Db3, hdDb, fun t ht => (tw.each t ht).1, wnd, B.sa, fun p hp => B.good.nm p.2 (List.mem_map.mpr ⟨p, hp, rfl⟩), fun H4 k4 kt4 done4 => ?_⟩
    have wa : ∀ x ∈ W.map (·.p.1.a), ∃ C dx h b, H3 x = some (.ins C dx (hfl h b)) := fun x hx => by
      obtain ⟨t, ht, rfl⟩ := List.mem_map.mp hx
      exact ⟨_, _, _, _, a3 t.p (tw.each t ht).1⟩
    have to4 : ∀ {x : Addr} {o : HO}, H3 x = some o → (∀ C dx h b, o ≠ .ins C dx (hfl h b)) → H4 x = some o := fun {x o} hx no => k4 _ _ (fun y => by
      obtain ⟨C, dx, h, b, g⟩ := wa x y
      rw [g] at hx
      exact no C dx h b (Option.some.inj hx).symm) hx
    have o4 : H4 e = some (.ins CE edx (efl hd pd)) := to4 o3 fun C dx h b y => efl_hfl (congrArg some y)
    have h4 : H4 hd = some (.dK (hkv L)) := to4 h3 fun C dx h b y => by cases y
    have p4 : H4 pd = some (.dK pps) := to4 p3 fun C dx h b y => by cases y
    have kinds2 : ∀ y ∈ (W.map (·.a) ++ W.map (·.d)) ++ Ts, (∀ xs, H2 y ≠ some (.tup xs)) ∧ ∀ o u, H2 y ≠ some (.frz o u) := fun y hy => by
      rcases List.mem_append.mp hy with y1 | y1
      · rcases List.mem_append.mp y1 with y1 | y1
        · obtain ⟨t, ht, rfl⟩ := List.mem_map.mp y1
          have := (tw.each t ht).2.2.2.obj
          exact ⟨(fun xs e1 => by rw [this] at e1; cases e1), (fun o u e1 => by rw [this] at e1; cases e1)⟩
        · obtain ⟨t, ht, rfl⟩ := List.mem_map.mp y1
          have := (tw.each t ht).2.2.2.en
          exact ⟨(fun xs e1 => by rw [this] at e1; cases e1), (fun o u e1 => by rw [this] at e1; cases e1)⟩
      · obtain ⟨pp, h1, _⟩ := tH2 y y1
        exact ⟨(fun xs e1 => by rw [h1] at e1; cases e1), (fun o u e1 => by rw [h1] at e1; cases e1)⟩
    have nl2 : NoL ((W.map (·.a) ++ W.map (·.d)) ++ Ts) H2 := fun y hy us e1 => by
      rcases List.mem_append.mp hy with y1 | y1
      · rcases List.mem_append.mp y1 with y1 | y1
        · obtain ⟨t, ht, rfl⟩ := List.mem_map.mp y1
          have := (tw.each t ht).2.2.2.obj
          rw [this] at e1
          cases e1
        · obtain ⟨t, ht, rfl⟩ := List.mem_map.mp y1
          have := (tw.each t ht).2.2.2.en
          rw [this] at e1
          cases e1
      · obtain ⟨pp, h1, _⟩ := tH2 y y1
        rw [h1] at e1
        cases e1
    have nl3 : NoL (W.map (·.p.1.a)) H3 := fun y hy us e1 => by
      obtain ⟨C, dx, h, b, g⟩ := wa y hy
      rw [g] at e1
      cases e1
    have kt3 : KTu H2 H3 := fun y xs e1 => k3 _ _ (fun hy => (kinds2 y hy).1 xs e1) e1
    have hu4 : Rd H4 pt (.tup us) := rd_kpX k4 kt4 (fun x hx o u e1 => by
      obtain ⟨C, dx, h, b, g⟩ := wa x hx
      rw [g] at e1
      cases e1) (rd_kpX k3 kt3 (fun x hx => (kinds2 x hx).2) (rd_sameE s12 hu))
    have pv4 : PairVs H4 us pl := ((hpv.same s12).kt kt3).kt kt4
    have t4 : Tabs Ts H4 := fun T hT => by
      obtain ⟨pp, g1, g2⟩ := t3 T hT
      refine ⟨pp, k4 _ _ (fun y => ?_) g1, g2⟩
      obtain ⟨C, dx, h, b, g⟩ := wa T y
      rw [g] at g1
      cases g1
    refine ⟨_, rfl, e, edx, _, rfl, o4, rfl, _, rfl, _, rfl, ?_⟩
    dsimp (config := { proj := false }) only [tNil]
    refine sort_prs (.inl hu4) pv4 fun l vs ps perm so nl pvs => ?_
    obtain ⟨zs, pk1, pk2, pk3, pk4⟩ := B.plk
    have few : pps.length < 1000 := by
      have := congrArg List.length pk1
      rw [List.length_map, List.length_map] at this
      omega
    obtain ⟨qfit, _⟩ := q3 ps perm so all
    refine ⟨e, edx, hd, pd, l, pps, z, vs, rfl, same_upd nl _ _ o4, same_upd nl _ _ p4, upd_same, few, fun hnil => ?_, fun _ t ot nt otc otd => qfit _ (fun q hq p hp hn => ?_) ?_⟩
    · have g1 := pvs.len
      have g2 := perm.length_eq
      rw [hnil] at g1
      have : pl.length = 0 := by rw [← g2, ← g1]; rfl
      exact absurd (List.length_eq_zero_iff.mp this) ok.ne
    · have qpl := perm.mem_iff.mp hq
      have : q.1 ∈ W.map (fun t => t.p.2.name) := by
        rw [wz]
        exact List.mem_map.mpr ⟨q, qpl, rfl⟩
      obtain ⟨t', ht', htn'⟩ := List.mem_map.mp this
      have hp' : t'.p = p := nodup_inj B.nd t'.p (tw.each t' ht').1 p hp (htn'.trans hn.symm)
      have := (done t' ht' q qpl htn').1
      rw [hp'] at this
      exact this
    -- what is left
    have s5 : Same H4 (upd (upd H4 l (.lst vs)) t (.frz ot (.tup vs))) := (same_upd nl).trans (same_upd nt)
    have et5 : upd (upd H4 l (.lst vs)) t (.frz ot (.tup vs)) t = some (.frz ot (.tup vs)) := upd_same
    have pvs5 := pvs.same s5
    generalize upd (upd H4 l (.lst vs)) t (.frz ot (.tup vs)) = H5 at s5 et5 pvs5 ⊢
    have p5 := s5 _ _ p4
    have k6 : Kp [pd] H5 (upd H5 pd (.dK (putK pps (Sum.inr z) (.ref t)))) := kp_upd (List.mem_singleton.mpr rfl)
    have e6 : upd H5 pd (.dK (putK pps (Sum.inr z) (.ref t))) pd = some (.dK (putK pps (Sum.inr z) (.ref t))) := upd_same
    generalize upd H5 pd (.dK (putK pps (Sum.inr z) (.ref t))) = H6 at k6 e6 ⊢
    have to6 : ∀ {x : Addr} {o : HO}, H5 x = some o → (∀ kv, o ≠ .dK kv) → H6 x = some o := fun {x o} hx no => k6 _ _ (fun y => by
      rw [List.mem_singleton.mp y, p5] at hx
      exact no _ (Option.some.inj hx).symm) hx
    have kt46 : KTu H4 H6 := fun x xs hx => to6 (s5 _ _ hx) fun kv y => by cases y
    obtain ⟨pf, hpf⟩ : ∃ pf : Tw → List (Key × V), ∀ t ∈ W, ∃ q ∈ pl, t.p.2.name = q.1 ∧ BookAt H3 CB t.a t.dx t.p.1.m t.d .non (pf t) t.p.2.room (t.p.2.bs ++ [xOf z bg (bg + ln) want q.2]) := by
      have each : ∀ t : Tw, ∃ ps', t ∈ W → ∃ q ∈ pl, t.p.2.name = q.1 ∧ BookAt H3 CB t.a t.dx t.p.1.m t.d .non ps' t.p.2.room (t.p.2.bs ++ [xOf z bg (bg + ln) want q.2]) := fun t => by
        by_cases ht : t ∈ W
        · have : t.p.2.name ∈ pl.map (·.1) := by
            rw [← wz]
            exact List.mem_map.mpr ⟨t, ht, rfl⟩
          obtain ⟨q, hq, hn⟩ := List.mem_map.mp this
          obtain ⟨_, ps', g⟩ := done t ht q hq hn.symm
          exact ⟨ps', fun _ => ⟨q, hq, hn.symm, g⟩⟩
        · exact ⟨[], fun h => absurd h ht⟩
      exact ⟨fun t => Classical.choose (each t), fun t => Classical.choose_spec (each t)⟩
    obtain ⟨wf, hwf⟩ : ∃ wf : Hp2 → Option Tw, wf = fun p => W.find? fun t => decide (t.p.2.name = p.2.name) := ⟨_, rfl⟩
    have wfS : ∀ p ∈ L, ∀ t, wf p = some t → t ∈ W ∧ t.p = p := fun p hp t e1 => by
      rw [hwf] at e1
      have g1 := List.mem_of_find?_eq_some e1
      have g2 : t.p.2.name = p.2.name := of_decide_eq_true (List.find?_some (p := fun t : Tw => decide (t.p.2.name = p.2.name)) e1)
      exact ⟨g1, nodup_inj B.nd t.p (tw.each t g1).1 p hp g2⟩
    have wfN : ∀ p ∈ L, wf p = none → p.2.name ∉ pl.map (·.1) := fun p hp e1 y => by
      rw [hwf] at e1
      rw [← wz] at y
      obtain ⟨t, ht, hn⟩ := List.mem_map.mp y
      have := List.find?_eq_none.mp e1 t ht
      exact this (decide_eq_true hn)
    obtain ⟨Fp, hFp⟩ : ∃ Fp : Hp2 → Hp2, Fp = fun p => (match wf p with | some t => (⟨p.1.a, p.1.dx, t.a, t.dx, p.1.m, t.d, .non, pf t⟩ : HAd) | none => p.1, bookH z bg (bg + ln) want pl p.2) := ⟨_, rfl⟩
    have Fa : ∀ p, (Fp p).1.a = p.1.a := fun p => by
      rw [hFp]
      show (match wf p with | some t => (⟨p.1.a, p.1.dx, t.a, t.dx, p.1.m, t.d, .non, pf t⟩ : HAd) | none => p.1).a = p.1.a
      cases wf p <;> rfl
    have F2 : ∀ p, (Fp p).2 = bookH z bg (bg + ln) want pl p.2 := fun p => by rw [hFp]
    have F1s : ∀ p t, wf p = some t → (Fp p).1 = ⟨p.1.a, p.1.dx, t.a, t.dx, p.1.m, t.d, .non, pf t⟩ := fun p t e1 => by
      rw [hFp]
      show (match wf p with | some t => (⟨p.1.a, p.1.dx, t.a, t.dx, p.1.m, t.d, .non, pf t⟩ : HAd) | none => p.1) = _
      rw [e1]
    have F1n : ∀ p, wf p = none → (Fp p).1 = p.1 := fun p e1 => by
      rw [hFp]
      show (match wf p with | some t => (⟨p.1.a, p.1.dx, t.a, t.dx, p.1.m, t.d, .non, pf t⟩ : HAd) | none => p.1) = _
      rw [e1]
    have eM : (L.map Fp).map (·.2) = (L.map (·.2)).map (bookH z bg (bg + ln) want pl) := by
      rw [List.map_map, List.map_map]
      exact List.map_congr_left fun p _ => F2 p
    have ek : hkv (L.map Fp) = hkv L := by
      unfold hkv
      rw [List.map_map]
      refine List.map_congr_left fun p _ => ?_
      show ((Sum.inr (Fp p).2.name : Key), V.ref (Fp p).1.a) = _
      rw [F2, Fa, book_name]
    have all' : ∀ h ∈ pl.map (·.1), h ∈ (L.map (·.2)).map (·.name) := fun h hh => by
      rw [List.map_map]
      exact all h hh
    -- each house
    have eachH : ∀ p ∈ L, HsAt CH CB H6 (Fp p).1 (Fp p).2 := fun p hp => by
      cases e1 : wf p with
      | some t =>
        obtain ⟨ht, rfl⟩ := wfS p hp t e1
        obtain ⟨q, hq, hn, bk⟩ := hpf t ht
        rw [F1s _ t e1, F2]
        have ob : H6 t.p.1.a = some (.ins CH t.p.1.dx (hfl t.p.2 t.a)) := to6 (s5 _ _ (done4 t ht)) fun kv y => by cases y
        refine ⟨by rw [book_hfl]; exact ob, ?_, .inl rfl⟩
        rw [book_room]
        have ebs : (bookH z bg (bg + ln) want pl t.p.2).bs = t.p.2.bs ++ [xOf z bg (bg + ln) want q.2] := by
          rw [book_in ok.nd hq hn]
          unfold Hm.bs
          rw [List.map_append]
          rfl
        rw [ebs]
        have b4 : BookAt H4 CB t.a t.dx t.p.1.m t.d .non (pf t) t.p.2.room (t.p.2.bs ++ [xOf z bg (bg + ln) want q.2]) := bk.kp k4 kt4 (fun y => by
          obtain ⟨C, dx, h, b, g⟩ := wa _ y
          have := bk.obj
          rw [g] at this
          exact flds_hfl this.symm) fun y => by
          obtain ⟨C, dx, h, b, g⟩ := wa _ y
          have := bk.en
          rw [g] at this
          cases this
        refine (BookAt.same s5 b4).kp k6 (fun x xs hx => to6 hx fun kv y => (by cases y)) (fun y => ?_) fun y => ?_
        · have y' : t.a = pd := List.mem_singleton.mp y
          have := (BookAt.same s5 b4).obj
          rw [y', p5] at this
          cases this
        · have y' : t.d = pd := List.mem_singleton.mp y
          have := freshH t.d (List.mem_append_right _ (List.mem_map.mpr ⟨t, ht, rfl⟩))
          rw [y', B.pl] at this
          cases this
      | none =>
        have no := wfN p hp e1
        rw [F1n p e1, F2, book_out no]
        have h0 := B.each p hp
        have pa : p.1.a ∉ W.map (·.p.1.a) := fun y => by
          obtain ⟨t, ht, e2⟩ := List.mem_map.mp y
          have : t.p = p := nodup_inj B.sa t.p (tw.each t ht).1 p hp e2
          refine no ?_
          rw [← wz, ← this]
          exact List.mem_map.mpr ⟨t, ht, rfl⟩
        have hs3 : HsAt CH CB H3 p.1 p.2 := (h0.same s12).kp k3 kt3 (notS h0.obj fun ps y => by cases y) (notS h0.book.obj fun ps y => by cases y) (notS h0.book.en fun ps y => by cases y) nl2
        have hs4 : HsAt CH CB H4 p.1 p.2 := hs3.kp k4 kt4 pa (fun y => by
          obtain ⟨C, dx, h, b, g⟩ := wa _ y
          have := hs3.book.obj
          rw [g] at this
          exact flds_hfl this.symm) (fun y => by
          obtain ⟨C, dx, h, b, g⟩ := wa _ y
          have := hs3.book.en
          rw [g] at this
          cases this) nl3
        have hs5 := hs4.same s5
        refine hs5.kp k6 (fun x xs hx => to6 hx fun kv y => (by cases y)) (fun y => ?_) (fun y => ?_) (fun y => ?_) (NoL.one p5 (fun _ z => by cases z))
        · have := hs5.obj
          rw [List.mem_singleton.mp y, p5] at this
          cases this
        · have := hs5.book.obj
          rw [List.mem_singleton.mp y, p5] at this
          cases this
        · exact pdS (List.mem_append_right _ (List.mem_map.mpr ⟨p, hp, List.mem_singleton.mp y⟩))
    have epd : e ≠ pd := fun y => by
      have := B.obj
      rw [y, B.pl] at this
      cases this
    have h6 : H6 hd = some (.dK (hkv L)) := k6 _ _ (fun y => hdpd (List.mem_singleton.mp y)) (s5 _ _ h4)
    have o6 : H6 e = some (.ins CE edx (efl hd pd)) := k6 _ _ (fun y => epd (List.mem_singleton.mp y)) (s5 _ _ o4)
    have nbzs : z ∉ zs := fun y => nbk ((pk4 z).mp y)
    have app : putK pps (Sum.inr z : Key) (.ref t) = pps ++ [((Sum.inr z : Key), V.ref t)] := putK_app fun p hp e1 => nbzs (by
      have : p.1 ∈ pps.map (·.1) := List.mem_map.mpr ⟨p, hp, rfl⟩
      rw [pk1, e1] at this
      obtain ⟨y, hy, e2⟩ := List.mem_map.mp this
      rw [← Sum.inr.inj e2]
      exact hy)
    have prsK : ∀ t' ps', PairsF H t' ps' → PairsF H6 t' ps' := fun t' ps' h =>
      ((((h.same s12).kq2 k3 kt3 (fun x hx => (kinds2 x hx).2)).kq2 k4 kt4 (fun x hx o u e1 => by
        obtain ⟨C, dx, h, b, g⟩ := wa x hx
        rw [g] at e1
        cases e1)).same s5).kq2 k6 (fun x xs hx => to6 hx fun kv y => (by cases y)) (fun x hx o u e1 => by
        rw [List.mem_singleton.mp hx, p5] at e1
        cases e1)
    have fresA : ∀ p ∈ L, ∀ t', wf p = some t' → H t'.a = none ∧ H t'.d = none := fun p hp t' e1 => by
      obtain ⟨ht, _⟩ := wfS p hp t' e1
      exact ⟨freshH _ (List.mem_append_left _ (List.mem_map.mpr ⟨t', ht, rfl⟩)), freshH _ (List.mem_append_right _ (List.mem_map.mpr ⟨t', ht, rfl⟩))⟩
    have Lnd : L.Nodup := nodup_of B.nd
    have sb' : ((L.map Fp).map (·.1.b)).Nodup := by
      rw [List.map_map]
      refine nodup_on Lnd fun p hp p' hp' e1 => ?_
      have e1 : (Fp p).1.b = (Fp p').1.b := e1
      cases w1 : wf p with
      | some t1 =>
        rw [F1s p t1 w1] at e1
        cases w2 : wf p' with
        | some t2 =>
          rw [F1s p' t2 w2] at e1
          obtain ⟨g1, rfl⟩ := wfS p hp t1 w1
          obtain ⟨g2, rfl⟩ := wfS p' hp' t2 w2
          rw [nodup_inj tw.na t1 g1 t2 g2 e1]
        | none =>
          rw [F1n p' w2] at e1
          have := (fresA p hp t1 w1).1
          have e1 : t1.a = p'.1.b := e1
          rw [e1, (B.each p' hp').book.obj] at this
          cases this
      | none =>
        rw [F1n p w1] at e1
        cases w2 : wf p' with
        | some t2 =>
          rw [F1s p' t2 w2] at e1
          have := (fresA p' hp' t2 w2).1
          have e1 : p.1.b = t2.a := e1
          rw [← e1, (B.each p hp).book.obj] at this
          cases this
        | none =>
          rw [F1n p' w2] at e1
          exact nodup_inj B.sb p hp p' hp' e1
    have sdd : ((L.map Fp).map (·.1.d)).Nodup := by
      rw [List.map_map]
      refine nodup_on Lnd fun p hp p' hp' e1 => ?_
      have e1 : (Fp p).1.d = (Fp p').1.d := e1
      cases w1 : wf p with
      | some t1 =>
        rw [F1s p t1 w1] at e1
        cases w2 : wf p' with
        | some t2 =>
          rw [F1s p' t2 w2] at e1
          obtain ⟨g1, rfl⟩ := wfS p hp t1 w1
          obtain ⟨g2, rfl⟩ := wfS p' hp' t2 w2
          rw [nodup_inj dbN.2 t1 g1 t2 g2 e1]
        | none =>
          rw [F1n p' w2] at e1
          have := (fresA p hp t1 w1).2
          have e1 : t1.d = p'.1.d := e1
          rw [e1, (B.each p' hp').book.en] at this
          cases this
      | none =>
        rw [F1n p w1] at e1
        cases w2 : wf p' with
        | some t2 =>
          rw [F1s p' t2 w2] at e1
          have := (fresA p' hp' t2 w2).2
          have e1 : p.1.d = t2.d := e1
          rw [← e1, (B.each p hp).book.en] at this
          cases this
        | none =>
          rw [F1n p' w2] at e1
          exact nodup_inj sd2 p hp p' hp' e1
    have notD : ∀ y kv, H y = some (.dK kv) → y ∉ L.map (·.1.d) → y ∉ (L.map Fp).map (·.1.d) := fun y kv hy no hin => by
      rw [List.map_map] at hin
      obtain ⟨p, hp, e1⟩ := List.mem_map.mp hin
      have e1 : (Fp p).1.d = y := e1
      cases w1 : wf p with
      | some t1 =>
        rw [F1s p t1 w1] at e1
        have := (fresA p hp t1 w1).2
        have e1 : t1.d = y := e1
        rw [e1, hy] at this
        cases this
      | none =>
        rw [F1n p w1] at e1
        exact no (List.mem_map.mpr ⟨p, hp, e1⟩)
    refine ⟨putK pps (Sum.inr z) (.ref t), L.map Fp, fun x o nx hx => ?_, fun T hT => ?_, ⟨o6, by rw [ek]; exact h6, e6, fun p' hp' => ?_, ?_, fun y v hv => ?_, ?_, sb', ?_, ?_⟩, eM, fun x hx => ?_, fun p' hp' => ?_⟩
    · have n1 : x ∉ foot e hd pd L := fun y => nx (List.mem_append_left _ y)
      have n2 : x ∉ Ts := fun y => nx (List.mem_append_right _ y)
      have x3 : H3 x = some o := k3 _ _ (fun y => by
        rcases List.mem_append.mp y with y | y
        · rw [freshH x y] at hx
          cases hx
        · exact n2 y) (s12 _ _ hx)
      have x4 : H4 x = some o := k4 _ _ (fun y => n1 (by
        obtain ⟨t1, ht1, e1⟩ := List.mem_map.mp y
        exact foot_mem.mpr (.inr (.inr (.inr ⟨t1.p, (tw.each t1 ht1).1, .inl e1.symm⟩))))) x3
      exact k6 _ _ (fun y => n1 (foot_mem.mpr (.inr (.inr (.inl (List.mem_singleton.mp y)))))) (s5 _ _ x4)
    · obtain ⟨pp, g1, g2⟩ := t4 T hT
      exact ⟨pp, to6 (s5 _ _ g1) (fun kv y => by cases y), g2⟩
    · obtain ⟨p, hp, rfl⟩ := List.mem_map.mp hp'
      exact eachH p hp
    · rw [eM, app]
      refine ⟨zs ++ [z], by rw [List.map_append, List.map_append, pk1]; rfl, List.nodup_append.mpr ⟨pk2, by simp, fun x hx y hy e1 => nbzs (by rw [← List.mem_singleton.mp hy, ← e1]; exact hx)⟩, ?_, fun y => ?_⟩
      · rw [List.length_append, List.length_singleton]
        exact ok.gangs zs pk2 fun y hy => (pk4 y).mp hy
      · rw [List.mem_append, List.mem_singleton, pk4, book_booked ok.ne all' ok.nd]
    · rw [valV_put] at hv
      rw [eM]
      by_cases hyz : (Sum.inr y : Key) = Sum.inr z
      · rw [if_pos hyz] at hv
        cases hv
        rw [Sum.inr.inj hyz]
        exact ⟨t, ps, rfl, ⟨vs, ⟨ot, to6 et5 (fun kv y => by cases y), otc, otd⟩, pvs5.kt (fun x xs hx => to6 hx fun kv y => (by cases y))⟩, book_pl nbk all' ok.nd perm so⟩
      · rw [if_neg hyz] at hv
        obtain ⟨t', ps', rfl, g1, g2⟩ := B.pls y v hv
        exact ⟨t', ps', rfl, prsK _ _ g1, g2.map (g := bookH z bg (bg + ln) want pl) (fun _ => book_name ..) fun h _ => book_alike (fun e1 => hyz (by rw [e1])) h⟩
    · have : (L.map Fp).map (·.1.a) = L.map (·.1.a) := by
        rw [List.map_map]
        exact List.map_congr_left fun p _ => Fa p
      rw [this]
      exact B.sa
    · have sd := B.sd
      rw [List.nodup_cons, List.nodup_cons] at sd
      refine List.nodup_cons.mpr ⟨fun y => ?_, List.nodup_cons.mpr ⟨notD pd _ B.pl sd.2.1, sdd⟩⟩
      rcases List.mem_cons.mp y with y | y
      · exact hdpd y
      · exact notD hd _ B.hs (fun y1 => sd.1 (List.mem_cons_of_mem _ y1)) y
    · rw [eM]
      exact B.good.book ok nbk
    · rcases foot_mem.mp hx with y | y | y | ⟨p', hp', y⟩
      · exact .inl (foot_mem.mpr (.inl y))
      · exact .inl (foot_mem.mpr (.inr (.inl y)))
      · exact .inl (foot_mem.mpr (.inr (.inr (.inl y))))
      · obtain ⟨p, hp, rfl⟩ := List.mem_map.mp hp'
        cases w1 : wf p with
        | some t1 =>
          rw [F1s p t1 w1] at y
          obtain ⟨g1, g2⟩ := fresA p hp t1 w1
          rcases y with y | y | y
          · exact .inl (foot_mem.mpr (.inr (.inr (.inr ⟨p, hp, .inl y⟩))))
          · refine .inr ?_
            rw [y]
            exact g1
          · refine .inr ?_
            rw [y]
            exact g2
        | none =>
          rw [F1n p w1] at y
          exact .inl (foot_mem.mpr (.inr (.inr (.inr ⟨p, hp, y⟩))))
    · obtain ⟨p, hp, rfl⟩ := List.mem_map.mp hp'
      cases w1 : wf p with
      | some t1 =>
        rw [F1s p t1 w1]
        exact .inl rfl
      | none =>
        rw [F1n p w1]
        exact .inr (.inl ⟨p, hp, rfl⟩)
end
end My
set_option maxHeartbeats 4000000
namespace My
open PySem PySem.Spec PyProof.Rows L2 GX GxR
abbrev s_scBkW : Stmt := topS 45
abbrev n_scBkW : List Str := ["_law_box_here", "_law_world", "_law_estate", "_law_name_here", "_law_rows", "_law_row", "_law_begin", "_law_gang_here", "_law_room", "_law_often_here", "_law_amount_here", "_law_one"]
theorem scBkW : FnScope n_scBkW ["_law_box_here", "_law_world", "_law_estate", "_law_name_here"] (defScope s_scBkW) := ⟨rfl, rfl, rfl, by decide +kernel, rfl, by decide +kernel, by decide +kernel⟩
/-- what holds of the law's houses, entries and kinds -/
structure G47 (gn : List Str) (W : Nat) (M : List Hm) (E : List Bw) (ks : List Kn) : Prop where
  N : Nms (M.map (·.name)) gn W
  G : MGood (M.map (·.name)) gn W M
  w8 : W ≤ 8
  yr : YR M
  rel : ∀ h ∈ M, h.bs.map bea = (ofH h.name E).map bea
  ek : ∀ x ∈ E, x.key ∈ M.map (·.name)
  ea : ∀ x ∈ E, x.am.length = W
  en : NN E
  kk : KnsOk W ks
  k1 : 1 ≤ ks.length
  k7 : ks.length ≤ 7
  ko : ∀ k ∈ ks, (ofK k.name M : Int) ≤ k.most
  kh : ∀ h ∈ M, h.kind = none ∨ ∃ k ∈ ks, h.kind = some k.name ∧ h.yard = k.yard ∧ h.room = k.room
  ml : M.length ≤ 14
  lt : ∀ h ∈ M, Ltr h.name
theorem ofK_map {z : Str} {g : Hm → Hm} (hg : ∀ h, (g h).kind = h.kind) (M : List Hm) : ofK z (M.map g) = ofK z M := by
  unfold ofK
  rw [List.filter_map, List.length_map]
  congr 1
  refine List.filter_congr fun h _ => ?_
  show decide (optS (g h).kind = V.str z) = _
  rw [hg]
theorem book_kind {z : Str} {b e : Int} {want : List Int} {pl : List (Str × Int)} (h : Hm) : (bookH z b e want pl h).kind = h.kind := by unfold bookH; split <;> rfl
theorem book_yard {z : Str} {b e : Int} {want : List Int} {pl : List (Str × Int)} (h : Hm) : (bookH z b e want pl h).yard = h.yard := by unfold bookH; split <;> rfl
theorem cnt_most {most : Int} {xs ys : List Int} : cnt most xs ys ≤ most := by
  unfold cnt
  split <;> omega
/-- a gang more in one house -/
theorem G47.book {gn : List Str} {W : Nat} {M : List Hm} {E : List Bw} {ks : List Kn} {z gd hw : Str} {rk mn ln bg n most : Int} {want : List Int} {h0 : Hm} (x : G47 gn W M E ks) (hh : h0 ∈ M) (zin : z ∈ gn) (nb : ¬ Booked M z) (wl : want.length = W) (wn : ∀ m ∈ want, 0 ≤ m) (wz : ∃ m ∈ want, 0 < m) (l1 : 0 < ln) (b0 : 0 ≤ bg) (be : bg + ln ≤ 2000000000) (n0 : 0 ≤ n) (n1 : n ≤ 1000000000) (le : n ≤ cnt most want (siteL bg (bg + ln) h0)) :
    EDeedOk (M.map (·.name)) gn W (.book z gd hw rk mn ln want [(h0.name, n)] bg) ∧ G47 gn W (M.map (bookH z bg (bg + ln) want [(h0.name, n)])) (E ++ [⟨h0.name, bg, bg + ln, want.map (· * n)⟩]) ks := by
  have ok : EDeedOk (M.map (·.name)) gn W (.book z gd hw rk mn ln want [(h0.name, n)] bg) := ⟨zin, wl, wn, l1, b0, be, by simp, rfl, by simp, fun q hq => by
    rw [List.mem_singleton.mp hq]
    exact ⟨List.mem_map.mpr ⟨h0, hh, rfl⟩, n0, n1⟩⟩
  have due := booked_due (gd := gd) (hw := hw) (rk := rk) (mn := mn) (out := [(h0.name, n)]) x.G nb wl wn wz l1 fun q hq => ⟨h0, hh, by rw [List.mem_singleton.mp hq], by rw [List.mem_singleton.mp hq]; exact le⟩
  refine ⟨ok, ⟨by rw [bookH_nms]; exact x.N, by rw [bookH_nms]; exact MGood.due x.N x.G ok due, x.w8, x.yr.book, fun h hm => ?_, fun y hy => ?_, fun y hy => ?_, fun y hy => ?_, x.kk, x.k1, x.k7, fun k hk => by rw [ofK_map book_kind]; exact x.ko k hk, fun h hm => ?_, by rw [List.length_map]; exact x.ml, fun h hm => by
    obtain ⟨h1, hm1, rfl⟩ := List.mem_map.mp hm
    rw [book_name]
    exact x.lt h1 hm1⟩⟩
  · obtain ⟨h1, hm1, rfl⟩ := List.mem_map.mp hm
    rw [book_name, ofH_snoc, List.map_append, ← x.rel h1 hm1]
    by_cases c : h0.name = h1.name
    · rw [if_pos c]
      unfold bookH Hm.bs
      rw [List.find?_cons_of_pos (by rw [decide_eq_true_eq]; exact c)]
      show List.map bea (List.map (·.x) (h1.es ++ [_])) = _
      rw [List.map_append, List.map_append]
      rfl
    · rw [if_neg c]
      unfold bookH Hm.bs
      rw [List.find?_cons_of_neg (by rw [decide_eq_true_eq]; exact c)]
      show List.map bea (List.map (·.x) h1.es) = _
      exact (List.append_nil _).symm
  · rw [bookH_nms]
    rcases List.mem_append.mp hy with hy | hy
    · exact x.ek y hy
    · rw [List.mem_singleton.mp hy]
      exact List.mem_map.mpr ⟨h0, hh, rfl⟩
  · rcases List.mem_append.mp hy with hy | hy
    · exact x.ea y hy
    · rw [List.mem_singleton.mp hy]
      show (want.map _).length = W
      rw [List.length_map]
      exact wl
  · rcases List.mem_append.mp hy with hy | hy
    · exact x.en y hy
    · rw [List.mem_singleton.mp hy]
      intro m hm
      obtain ⟨m0, h3, rfl⟩ := List.mem_map.mp hm
      exact Int.mul_nonneg (wn m0 h3) n0
  · obtain ⟨h1, hm1, rfl⟩ := List.mem_map.mp hm
    rw [book_kind, book_yard, book_room]
    exact x.kh h1 hm1
def spWBkd (CE CH CB : Addr) (Ts : List Addr) (gn : List Str) : Sp := fun vs H Q _ => ∃ (b D e edx hd pd lh le lk : Addr) (c : Int) (z : Str) (H1 : Hp) (pps : List (Key × V)) (L : List Hp2) (W : Nat) (ws us kus : List V) (E : List Bw) (ks : List Kn), vs = [.ref b, .ref D, .ref e, .str z] ∧ Tabs Ts H1 ∧ BoxAt H b c ∧ c ≤ 100000 ∧ H1 b = none ∧ b ≠ lh ∧ b ≠ le ∧ b ≠ lk ∧
  S47 CE CH CB Ts H1 H e edx hd pd D lh le lk pps L W ws (L.map (·.2)) us E kus ks ∧ G47 gn W (L.map (·.2)) E ks ∧ E.length ≤ 50 ∧ 1 ≤ L.length ∧ z ∈ gn ∧ ¬ Booked (L.map (·.2)) z ∧
  ∀ (pps' : List (Key × V)) (L' : List Hp2) (us' : List V) (E' : List Bw) (H' : Hp), S47 CE CH CB Ts H1 H' e edx hd pd D lh le lk pps' L' W ws (L'.map (·.2)) us' E' kus ks → G47 gn W (L'.map (·.2)) E' ks → E'.length ≤ E.length + 1 → (∀ y, Booked (L'.map (·.2)) y → Booked (L.map (·.2)) y ∨ y = z) → L'.length = L.length → (∀ y xs, y ≠ le → y ≠ b → H y = some (.lst xs) → H' y = some (.lst xs)) → Q .non H'
section
variable {P : Program} {w : World} {K : PySem.W.Frag} {mg : Str → Option Value} {base : Heap} {CE CH CB : Addr}
theorem ok_wbkd {f fT fG fF fO fBG TK NH TM : Addr} {fd fdT fdG fdF fdO fdBG : FuncData} {k : Nat} {Ts : List Addr} {gn : List Str} (F : Fun K "_law_booked" "_law_booked" s_scBkW f fd) (X : Txt mg) (cc : ECls K CE)
    (GT : FnOk P w K mg base CX0 k fT fdT ["_law_box_here", "_law_many"] spTakeW) (mT : mg "_law_take" = some (.ref fT)) (kT : PySem.W.keepIn K (.ref fT) = true) (bT : L2.Binds K fdT ["_law_box_here", "_law_many"] [])
    (GG : FnOk P w K mg base CX0 k fG fdG ["_law_box_here", "_law_name_here", "_law_wares"] spWGng) (mG : mg "_law_gang" = some (.ref fG)) (kG : PySem.W.keepIn K (.ref fG) = true) (bG : L2.Binds K fdG ["_law_box_here", "_law_name_here", "_law_wares"] [])
    (GF : FnOk P w K mg base CX0 k fF fdF ["_law_world", "_law_row", "_law_begin", "_law_end"] spWLef) (mF : mg "_law_left" = some (.ref fF)) (kF : PySem.W.keepIn K (.ref fF) = true) (bF : L2.Binds K fdF ["_law_world", "_law_row", "_law_begin", "_law_end"] [])
    (GO : FnOk P w K mg base CX0 k fO fdO ["_law_want_here", "_law_room", "_law_most"] (spWOft K)) (mO : mg "_law_often" = some (.ref fO)) (kO : PySem.W.keepIn K (.ref fO) = true) (bO : L2.Binds K fdO ["_law_want_here", "_law_room", "_law_most"] [])
    (GBG : FnOk P w K mg base (L2.CX P w) k fBG fdBG ["self", "gang", "placing", "begin"] (spBookL CE CH CB TK NH TM Ts)) (MBG : Meth K CE "book_gang" fBG) (bBG : L2.Binds K fdBG ["self", "gang", "placing", "begin"] []) :
    FnOk P w K mg base CX0 (k + 1) f fd ["_law_box_here", "_law_world", "_law_estate", "_law_name_here"] (spWBkd CE CH CB Ts gn) := by
  have cE := cc.cls
  refine F.ok scBkW (fun vs H Q E h => ?_) (fun cdv A outer s H vs Q E hr h => ?_)
  · obtain ⟨b, D, e, edx, hd, pd, lh, le, lk, c, z, H1, pps, L, W, ws, us, kus, E, ks, rfl, _⟩ := h
    rfl
  · obtain ⟨b, D, e, edx, hd, pd, lh, le, lk, c, z, H1, pps, L, W, ws, us, kus, Es, ks, rfl, tH, B, hc, fb, nb1, nb2, nb3, x, g, el, l1, zin, nbk, q⟩ := h
    refine ⟨_, (pss_cons (ps_set (i := 4) scBkW.nd rfl (.inl rfl) (pe_dget (hu_of hr) (pv 1) pe_str (fun _ _ => rfl)))
(pss_cons (ps_set (i := 5) scBkW.nd rfl (.inl rfl) (pe_ix ix_list (pv 4) (pe_call GT hr (by rfl) mT kT bT .nil pass0 (pa_cons (pv 0) (pa_cons (pe_callB call_len_seq (by rfl) X.len PySem.boot_len (pa_cons (pv 4) pa_nil)) pa_nil))) (fun _ _ => rfl)))
(pss_cons (ps_set (i := 6) scBkW.nd rfl (.inl rfl) (pe_call GT hr (by rfl) mT kT bT .nil pass0 (pa_cons (pv 0) (pa_cons pe_int pa_nil))))
(pss_cons (ps_set (i := 7) scBkW.nd rfl (.inl rfl) (pe_call GG hr (by rfl) mG kG bG .nil pass0 (pa_cons (pv 0) (pa_cons (pv 3) (pa_cons (pe_dget (hu_of hr) (pv 1) pe_str (fun _ _ => rfl)) pa_nil)))))
(pss_cons (ps_set (i := 8) scBkW.nd rfl (.inl rfl) (pe_call GF hr (by rfl) mF kF bF .nil pass0 (pa_cons (pv 1) (pa_cons (pv 5) (pa_cons (pv 6) (pa_cons (pe_op op_add (pv 6) (pe_ix ix_tup (pv 7) pe_int (fun _ _ => rfl))) pa_nil))))))
(pss_cons (ps_set (i := 9) scBkW.nd rfl (.inr rfl) (pe_call GO hr (by rfl) mO kO bO .nil pass0 (pa_cons (pe_ix ix_tup (pv 7) pe_int (fun _ _ => rfl)) (pa_cons (pv 8) (pa_cons (pe_ix ix_tup (pv 7) pe_int (fun _ _ => rfl)) pa_nil)))))
(pss_one (ps_if (pt_cmpR op_gt (pv 9) pe_int (nomark _))
  (pss_cons (ps_set (i := 7) scBkW.nd rfl (.inl rfl) (pe_op op_catA (pe_slice sl_tup (pv 7) po_none (po_some pe_int)) (pe_tup (pa_cons (pv 9) (pa_cons (pe_ix ix_tup (pv 7) pe_int (fun _ _ => rfl)) (pa_cons pe_str (pa_cons (pe_ix ix_tup (pv 7) pe_int (fun _ _ => rfl)) pa_nil)))))))
  (pss_cons (ps_expr (pe_meth (pv 2) cE MBG GBG hr bBG .nil passE (pa_cons (pv 7) (pa_cons (pe_tup (pa_cons (pe_tup (pa_cons (pe_ix ix_tup (pv 5) pe_int (fun _ _ => rfl)) (pa_cons (pv 9) pa_nil))) pa_nil)) (pa_cons (pv 6) pa_nil)))))
  (pss_cons (ps_set (i := 10) scBkW.nd rfl (.inl rfl) (pe_callTy call_tuple_of (by rfl) X.tup bt_tuple (pa_cons (pe_lc (own := [("_law_one", 11)]) (g := (gName 11)) (tt := tYes) rfl scBkW.nd (pi_tup (pe_ix ix_tup (pv 7) pe_int (fun _ _ => rfl))) (blkOk_by (own := [("_law_one", 11)]) (N := n_scBkW) (sc := defScope s_scBkW) (by decide +kernel)) (fun _ _ _ _ _ => (pg_name (i := 11) scBkW.nd rfl (.inl rfl))) (fun _ _ _ _ _ => pts_nil) (fun _ _ _ _ _ => (pe_op op_mul (pv 9) (pv 11)))) pa_nil)))
  (pss_one (ps_expr (pe_bm PySem.F.plainAttrs_list PySem.F.slot_list_append PySem.F.type_list_append mt_append (pe_dget (hu_of hr) (pv 1) pe_str (fun _ _ => rfl)) (pa_cons (pe_tup (pa_cons (pe_ix ix_tup (pv 5) pe_int (fun _ _ => rfl)) (pa_cons (pv 6) (pa_cons (pe_op op_add (pv 6) (pe_ix ix_tup (pv 7) pe_int (fun _ _ => rfl))) (pa_cons (pv 10) pa_nil))))) pa_nil)))))))
  pss_nil)))))))), ?_⟩
    have lws : ws.length = L.length := by rw [x.rows.length, List.length_map]
    have l14 : L.length ≤ 14 := by have := g.ml; rwa [List.length_map] at this
    refine ⟨_, rfl, D, .ref lh, rfl, dgetR (Rd.of x.ob) rfl, ?_⟩
    refine ⟨_, rfl, _, rfl, _, rfl, lh, _, rfl, .inl (SqL.of x.hh), b, _, _, rfl, B, ?_, ?_, by omega, fun r H2 a1 b1 k2 B2 => ?_⟩
    · rw [lws]; omega
    · rw [lws]; omega
    rw [lws] at b1
    have x2 := x.box tH B k2 fb ⟨nb1, nb2, nb3⟩
    obtain ⟨rn, rfl⟩ : ∃ rn : Nat, r = rn := ⟨r.toNat, by omega⟩
    obtain ⟨u, hu⟩ : ∃ u, ws[rn]? = some u := ⟨ws[rn]'(by omega), List.getElem?_eq_getElem _⟩
    obtain ⟨h0, hh0, t, am, rfl, ht, ham⟩ := paired_get x2.rows hu
    have h0m : h0 ∈ L.map (·.2) := List.mem_of_getElem? hh0
    refine ⟨lh, _, rn, .ref t, rfl, rfl, SqL.of x2.hh, atI_nat hu, ?_⟩
    refine ⟨_, rfl, b, _, 20, rfl, B2, by decide, by decide, by omega, fun bg H3 g0 g1 k3 B3 => ?_⟩
    have x3 := x2.box tH B2 k3 fb ⟨nb1, nb2, nb3⟩
    refine ⟨_, rfl, _, rfl, _, rfl, D, .int (W : Int), rfl, dgetR (Rd.of x3.ob) rfl, b, _, z, W, rfl, B3, by omega, g.N.w1, g.w8, fun gt wt how rk many ln want H4 k4 B4 ngt nwt hg gok m20 l9 w8n => ?_⟩
    have x4 := x3.box tH B3 k4 fb ⟨nb1, nb2, nb3⟩
    have ht4 := box_kt B3 k4 _ _ (box_kt B2 k3 _ _ ht)
    have ham4 := box_kt B3 k4 _ _ (box_kt B2 k3 _ _ ham)
    obtain ⟨hg1, hg2⟩ := hg
    refine ⟨_, rfl, _, rfl, _, rfl, _, rfl, _, rfl, gt, _, 6, .int ln, rfl, rfl, SqT.of hg1, rfl, bg, ln, rfl, rfl, ?_⟩
    have rl : h0.room.length = W := g.G.room h0 h0m
    have hG := g.G.each h0 h0m
    have rn : ∀ m ∈ h0.room, 0 ≤ m := g.G.good.nn h0 h0m
    refine ⟨D, lh, le, lk, t, am, us, Es, W, h0.name, .str h0.yard, optS h0.kind, .str h0.state, h0.room, bg, bg + ln, rfl, x4.wv, ht4, ham4, g.N.w1, g.w8, rl, g.ea, g.en, by omega, fun tl H5 s5 ntl etl => ?_⟩
    rw [← site_bea (g.rel h0 h0m)] at etl
    have x5 := x4.same s5
    have B5 := B4.same s5
    have hg5 := s5 _ _ hg1
    have hw5 := s5 _ _ hg2
    have ls : (siteL bg (bg + ln) h0).length = h0.room.length := leftTs_len _
    have sn : ∀ m ∈ siteL bg (bg + ln) h0, 0 ≤ m := leftTs_nn _ rn hG.fit
    have su : ∀ m ∈ siteL bg (bg + ln) h0, m ≤ 1000000000000 := fun m hm => by
      obtain ⟨m2, h2, h3⟩ := leftTs_le m hm
      exact Int.le_trans h3 ((g.yr h0 h0m).1 m2 h2)
    have wn : ∀ m ∈ want, 0 ≤ m := fun m hm => (gok.am m hm).1
    have wz : ∃ m ∈ want, 0 < m := by
      obtain ⟨m, h1, h2⟩ := gok.nz
      exact ⟨m, h1, by have := wn m h1; omega⟩
    refine ⟨_, rfl, gt, _, 4, .ref wt, rfl, rfl, SqT.of hg5, rfl, _, rfl, _, rfl, gt, _, 3, .int many, rfl, rfl, SqT.of hg5, rfl, ?_⟩
    refine ⟨wt, tl, many, want, siteL bg (bg + ln) h0, rfl, SqT.of hw5, SqT.of etl, by rw [ls, rl]; exact gok.wl, by rw [gok.wl]; have := g.w8; omega, fun m hm => ⟨wn m hm, by have := w8n m hm; omega⟩, fun m hm => ⟨sn m hm, su m hm⟩, wz, by have := gok.m1; omega, by omega, fun H6 s6 => ?_⟩
    have x6 := x5.same s6
    have B6 := B5.same s6
    have hg6 := s6 _ _ hg5
    have hw6 := s6 _ _ hw5
    obtain ⟨n, hn⟩ : ∃ n, cnt many want (siteL bg (bg + ln) h0) = n := ⟨_, rfl⟩
    have n20 : n ≤ 20 := by rw [← hn]; exact Int.le_trans cnt_most m20
    rw [hn]
    refine ⟨_, rfl, n, 0, rfl, rfl, _, rfl, ite2 (fun c0 => ?_) (fun c0 => ?_)⟩
    · have n1 : 0 < n := of_decide_eq_true c0
      refine ⟨_, rfl, _, rfl, gt, _, rfl, SqT.of hg6, (fun z => absurd z.2 (by show ¬ HT.sIx 7 7 (some 3) = 7; decide)), fun p1 np1 => ?_⟩
      have s7 := same_upd (o := .tup (cutV [V.str z, .str "guild", .int rk, .int many, .ref wt, .str how, .int ln] none (some 3))) np1
      have e7 : upd H6 p1 (.tup (cutV [V.str z, .str "guild", .int rk, .int many, .ref wt, .str how, .int ln] none (some 3))) p1 = some (.tup [V.str z, .str "guild", .int rk]) := upd_same
      generalize upd H6 p1 (.tup (cutV [V.str z, .str "guild", .int rk, .int many, .ref wt, .str how, .int ln] none (some 3))) = H7 at s7 e7 ⊢
      have x7 := x6.same s7
      have B7 := B6.same s7
      have hg7 := s7 _ _ hg6
      have hw7 := s7 _ _ hw6
      refine ⟨_, rfl, _, rfl, gt, _, 4, .ref wt, rfl, rfl, SqT.of hg7, rfl, _, rfl, gt, _, 6, .int ln, rfl, rfl, SqT.of hg7, rfl, by show 4 ≤ sizeLine; decide, fun p2 np2 => ?_⟩
      have s8 := same_upd (o := .tup [V.int n, .ref wt, .str "any", .int ln]) np2
      have e8 : upd H7 p2 (.tup [V.int n, .ref wt, .str "any", .int ln]) p2 = some (.tup [V.int n, .ref wt, .str "any", .int ln]) := upd_same
      generalize upd H7 p2 (.tup [V.int n, .ref wt, .str "any", .int ln]) = H8 at s8 e8 ⊢
      refine catA_of (s8 _ _ e7) e8 (by show 3 + 4 ≤ sizeLine; decide) fun g2 H9 s9 eg2 => ?_
      have x9 := (x7.same s8).same s9
      have B9 := (B7.same s8).same s9
      have hw9 := s9 _ _ (s8 _ _ hw7)
      have s69 := (s7.trans s8).trans s9
      have ht9 := s69 _ _ (s6 _ _ (s5 _ _ ht4))
      refine ⟨_, rfl, e, edx, _, rfl, x9.es.obj, rfl, _, rfl, _, rfl, t, _, 0, .str h0.name, rfl, rfl, SqT.of ht9, rfl, _, rfl, by show 2 ≤ sizeLine; decide, fun i1 ni1 => ?_⟩
      have s10 := same_upd (o := .tup [V.str h0.name, .int n]) ni1
      have e10 : upd H9 i1 (.tup [V.str h0.name, .int n]) i1 = some (.tup [V.str h0.name, .int n]) := upd_same
      generalize upd H9 i1 (.tup [V.str h0.name, .int n]) = H10 at s10 e10 ⊢
      refine ⟨by show 1 ≤ sizeLine; decide, fun i2 ni2 => ?_⟩
      have s11 := same_upd (o := .tup [V.ref i1]) ni2
      have e11 : upd H10 i2 (.tup [V.ref i1]) i2 = some (.tup [V.ref i1]) := upd_same
      generalize upd H10 i2 (.tup [V.ref i1]) = H11 at s11 e11 ⊢
      have x11 := (x9.same s10).same s11
      have B11 := (B9.same s10).same s11
      have hg11 := s11 _ _ (s10 _ _ eg2)
      have hw11 := s11 _ _ (s10 _ _ hw9)
      have ht11 := s11 _ _ (s10 _ _ ht9)
      have s611 := (s69.trans s10).trans s11
      refine ⟨_, rfl, ?_⟩
      dsimp (config := { proj := false }) only [tNil, List.cons_append, List.nil_append, List.append_nil]
      obtain ⟨ok, g2'⟩ := g.book (gd := "guild") (hw := "any") (rk := rk) (mn := n) (n := n) (ln := ln) (bg := bg) (most := many) h0m zin nbk gok.wl wn wz gok.l1 g0 (by omega) (by omega) (by omega) (by rw [hn]; exact Int.le_refl _)
      refine book_call x11.es x11.fw.tabs g.N g.G ok nbk (fun q1 hq1 => ?_) hg11 hw11 ⟨_, .inl e11, .cons ?_ .nil⟩ fun H12 aft => ?_
      · rw [List.mem_singleton.mp hq1]
        exact ⟨h0, h0m, rfl, fit_first (most := many) hG rn (by rw [gok.wl, rl]) wn wz (by have := gok.l1; omega) (by rw [hn]; exact Int.le_refl _)⟩
      · exact s11 _ _ e10
      · obtain ⟨pps2, L2, x12, eL, kt12, kl12⟩ := x11.deed tH aft
        have hg12 := kt12 _ _ hg11
        have hw12 := kt12 _ _ hw11
        have ht12 := kt12 _ _ ht11
        clear aft hg11 hw11 ht11 e11 e10 s10 s11 e8 e7 s7 s8 s9
        have lw20 : want.length ≤ 20 := by rw [gok.wl]; have := g.w8; omega
        refine ⟨_, rfl, g2, _, 4, .ref wt, rfl, rfl, SqT.of hg12, rfl, wt, rfl, ⟨_, SqT.of hw12⟩, fun D5 nD5 => ?_⟩
        refine lc_tup (K := K) (xs := want.map V.int) (fun j H' => Same H12 H' ∧ H' D5 = some (.lst (((want.map (· * n)).take j).map V.int))) ⟨same_upd nD5, upd_same⟩ (fun j H' _ p => SqT.of (p.1 _ _ hw12)) (fun j v H' hx p => ?_) (fun H13 p => ?_)
        · obtain ⟨v1, v2⟩ := p
          rw [List.getElem?_map] at hx
          cases hm : want[j]? with
          | none => rw [hm] at hx; cases hx
          | some m =>
          rw [hm] at hx
          obtain rfl : V.int m = v := Option.some.inj hx
          have hj : j < want.length := (List.getElem?_eq_some_iff.mp hm).1
          refine ⟨rfl, ?_⟩
          refine ⟨_, rfl, _, rfl, n, m, rfl, rfl, .inl ⟨by omega, by omega⟩, ?_⟩
          refine ⟨_, v2, ?_, same_put v1 nD5, ?_⟩
          · rw [List.length_map, List.length_take, List.length_map]
            exact sml (by omega)
          · have eb : (want.map (· * n))[j]? = some (m * n) := by rw [List.getElem?_map, hm]; rfl
            rw [upd_same, List.take_add_one, eb, List.map_append]
            show some (HO.lst (_ ++ [V.int (n * m)])) = some (HO.lst (_ ++ [V.int (m * n)]))
            rw [Int.mul_comm]
        · obtain ⟨v1, v2⟩ := p
          rw [List.length_map, List.take_of_length_le (by rw [List.length_map]; exact Nat.le_refl _)] at v2
          refine ⟨D5, _, rfl, .inl ⟨SqL.of v2, fun am2 nam2 => ?_⟩⟩
          have s14 := same_upd (o := .tup ((want.map (· * n)).map V.int)) nam2
          have e14 : upd H13 am2 (.tup ((want.map (· * n)).map V.int)) am2 = some (.tup ((want.map (· * n)).map V.int)) := upd_same
          generalize upd H13 am2 (.tup ((want.map (· * n)).map V.int)) = H14 at s14 e14 ⊢
          have s124 := v1.trans s14
          have x14 := x12.same s124
          have hg14 := s124 _ _ hg12
          have ht14 := s124 _ _ ht12
          refine ⟨_, rfl, D, .ref le, rfl, dgetR (Rd.of x14.ob) rfl, .inl ⟨rfl, _, SqL.of x14.he⟩, ?_⟩
          refine ⟨_, rfl, t, _, 0, .str h0.name, rfl, rfl, SqT.of ht14, rfl, _, rfl, _, rfl, _, rfl, g2, _, 6, .int ln, rfl, rfl, SqT.of hg14, rfl, bg, ln, rfl, rfl, _, rfl, by show 4 ≤ sizeLine; decide, fun u nu => ?_⟩
          have s15 := same_upd (o := .tup [V.str h0.name, .int bg, .int (bg + ln), .ref am2]) nu
          have e15 : upd H14 u (.tup [V.str h0.name, .int bg, .int (bg + ln), .ref am2]) u = some (.tup [V.str h0.name, .int bg, .int (bg + ln), .ref am2]) := upd_same
          have e145 := s15 _ _ e14
          generalize upd H14 u (.tup [V.str h0.name, .int bg, .int (bg + ln), .ref am2]) = H15 at s15 e15 e145 ⊢
          have x15 := x14.same s15
          have lus : us.length = Es.length := x15.ents.length
          refine ⟨le, us, .ref u, rfl, rfl, x15.he, by rw [lus]; exact small63 (by omega), ?_⟩
          have x16 := x15.ent (h := ⟨h0.name, bg, bg + ln, want.map (· * n)⟩) ⟨u, am2, rfl, e15, e145⟩
          have x17 := x16.rowsTo (rows_book (z := z) (bg := bg) (en := bg + ln) (want := want) (pl := [(h0.name, n)]) x16.rows)
          rw [← eL] at x17 g2'
          refine q pps2 L2 _ _ _ x17 g2' (by rw [List.length_append]; exact Nat.le_refl _) (fun y hy => ?_) ?_ fun y xs n1 n2 hy => ?_
          · rw [eL] at hy
            exact booked_sub hy
          · have := congrArg List.length eL
            rw [List.length_map, List.length_map, List.length_map] at this
            exact this
          · rw [upd_ne n1]
            have nb : y ∉ [b] := fun z => n2 (List.mem_singleton.mp z)
            exact s15 _ _ (s124 _ _ (kl12 _ _ (s611 _ _ (s6 _ _ (s5 _ _ (k4 _ _ nb (k3 _ _ nb (k2 _ _ nb hy))))))))
    · refine q pps L us Es H6 x6 g (by omega) (fun y hy => .inl hy) rfl fun y xs n1 n2 hy => ?_
      have nb : y ∉ [b] := fun z => n2 (List.mem_singleton.mp z)
      exact s6 _ _ (s5 _ _ (k4 _ _ nb (k3 _ _ nb (k2 _ _ nb hy))))
end
end My
set_option maxHeartbeats 2000000
/-! the law's world begun; a house more in it -/
namespace My
open PySem PySem.W PySem.Spec PyProof.Rows L2 GX GxR
theorem same_kpb {H H' H2 : Hp} {b : Addr} (s : Same H H') (nb : H b = none) (k : Kp [b] H' H2) : Same H H2 := fun y o hy => k _ _ (fun z => by rw [List.mem_singleton.mp z, nb] at hy; cases hy) (s _ _ hy)
theorem if_midN {R : Bool → Hp → Prop} {r0 : V → Hp → Prop} {b0 c0 : L2.St → Hp → Prop} {c : TT} {t u : TS} {D : Ends} {i : Nat} {v : V} {σ : L2.St} {H : Hp} (hR : ∀ b H1, R b H1 → if b = true then t D (σ.set i (some v)) H1 else u D (σ.set i (some v)) H1) (hc : ∀ Q, (∀ b H1, R b H1 → Q b H1) → c (σ.set i (some v)) H Q) : gName i v σ H (Ends.nx ⟨tIfS c t u D, r0, b0, c0⟩) := hc _ hR
theorem S47.new {CE CH CB e edx hd pd D lh le lk : Addr} {H1 H : Hp} {Ts : List Addr} {W : Nat} {kus : List V} {ks : List Kn} (f : Fw Ts H1 H) (o : H e = some (.ins CE edx (efl hd pd))) (hh : H hd = some (.dK [])) (hp : H pd = some (.dK [])) (ne : hd ≠ pd) (n1 : hd ≠ D) (n2 : pd ≠ D) (f1 : H1 e = none) (f2 : H1 hd = none) (f3 : H1 pd = none) (f4 : H1 D = none)
    (hD : H D = some (.dK (wdkv W lh le lk))) (h1 : H lh = some (.lst [])) (h2 : H le = some (.lst [])) (h3 : H lk = some (.lst kus)) (kn : Paired (KndAt H) kus ks) (s1 : lh ≠ le) (s2 : lh ≠ lk) (s3 : le ≠ lk) (g1 : H1 lh = none) (g2 : H1 le = none) (g3 : H1 lk = none) : S47 CE CH CB Ts H1 H e edx hd pd D lh le lk [] [] W [] [] [] [] kus ks := by
  refine ⟨f, EsAt.nothing o hh hp ne, fun x hx => ?_, (fun p hp => by cases hp), hD, fun hx => ?_, h1, h2, h3, .nil, .nil, kn, s1, s2, s3, f4, g1, g2, g3⟩
  · rcases foot_mem.mp hx with rfl | rfl | rfl | ⟨p, hp, _⟩
    · exact f1
    · exact f2
    · exact f3
    · cases hp
  · rcases foot_mem.mp hx with rfl | rfl | rfl | ⟨p, hp, _⟩
    · rw [o] at hD; cases hD
    · exact n1 rfl
    · exact n2 rfl
    · cases hp
/-! rows, as data -/
def kdD : Option Str → PyData
  | none => .none
  | some z => .str z
def hrowD (h : Hm) : PyData := .tuple [.str h.name, .str h.yard, .tuple (h.room.map PyData.int), kdD h.kind, .str h.state]
theorem dp_hrow {K : PySem.W.Frag} {H : Hp} {v : V} {h : Hm} (r : RowW H v h) : Dp K H v (hrowD h) := by
  obtain ⟨t, am, rfl, h1, h2⟩ := r
  refine .tup (SqT.of h1) (.cons (.str _) (.cons (.str _) (.cons (.tup (SqT.of h2) (dp_ints _)) (.cons ?_ (.cons (.str _) .nil)))))
  cases h.kind with
  | none => exact .non
  | some z => exact .str z
theorem dp_hrows {K : PySem.W.Frag} {H : Hp} : ∀ {ws : List V} {M : List Hm}, Paired (RowW H) ws M → DpAll K H ws (M.map hrowD)
  | _, _, .nil => .nil
  | _, _, .cons r rs => .cons (dp_hrow r) (dp_hrows rs)
theorem eqv_hrows (M : List Hm) : PyData.eqv (.list (M.map hrowD)) (.list []) = decide (M = []) := by
  cases M with
  | nil => rfl
  | cons h M => rfl
theorem sh_hrows {M : List Hm} (ok : ∀ h ∈ M, PySem.PyData.strOk h.name = true ∧ PySem.PyData.strOk h.yard = true ∧ PySem.PyData.strOk h.state = true ∧ ∀ z, h.kind = some z → PySem.PyData.strOk z = true) : SeqAt.shaped (.list (M.map hrowD)) = true := by
  refine sh_of (n := 3) (lay_lst fun d hd => ?_) (dep_lst fun d hd => ?_) (by decide)
  · obtain ⟨h, hh, rfl⟩ := List.mem_map.mp hd
    obtain ⟨o1, o2, o3, o4⟩ := ok h hh
    refine lay_tup fun d hd => ?_
    rcases List.mem_cons.mp hd with rfl | hd
    · exact lay_str o1
    rcases List.mem_cons.mp hd with rfl | hd
    · exact lay_str o2
    rcases List.mem_cons.mp hd with rfl | hd
    · refine lay_tup fun d hd => ?_
      obtain ⟨n, _, rfl⟩ := List.mem_map.mp hd
      rfl
    rcases List.mem_cons.mp hd with rfl | hd
    · cases hk : h.kind with
      | none => rfl
      | some z => exact lay_str (o4 z hk)
    · rw [List.mem_singleton.mp hd]
      exact lay_str o3
  · obtain ⟨h, hh, rfl⟩ := List.mem_map.mp hd
    refine dep_tup fun d hd => ?_
    have flat : ∀ {d : PyData}, PyData.depth d = 0 → PyData.depth d ≤ 1 := fun h => by omega
    rcases List.mem_cons.mp hd with rfl | hd
    · exact flat (dep0_str _)
    rcases List.mem_cons.mp hd with rfl | hd
    · exact flat (dep0_str _)
    rcases List.mem_cons.mp hd with rfl | hd
    · refine dep_tup fun d hd => ?_
      obtain ⟨n, _, rfl⟩ := List.mem_map.mp hd
      exact Nat.le_of_eq (dep0_int n)
    rcases List.mem_cons.mp hd with rfl | hd
    · cases hk : h.kind with
      | none => exact flat dep0_non
      | some z => exact flat (dep0_str z)
    · rw [List.mem_singleton.mp hd]
      exact flat (dep0_str _)
theorem G47.okn {gn : List Str} {W : Nat} {M : List Hm} {E : List Bw} {ks : List Kn} (x : G47 gn W M E ks) : ∀ h ∈ M, PySem.PyData.strOk h.name = true ∧ PySem.PyData.strOk h.yard = true ∧ PySem.PyData.strOk h.state = true ∧ ∀ z, h.kind = some z → PySem.PyData.strOk z = true := fun h hh => by
  refine ⟨(x.N.ho h.name (List.mem_map.mpr ⟨h, hh, rfl⟩)).1, (x.yr h hh).2.1, (x.yr h hh).2.2, fun z hz => ?_⟩
  rcases x.kh h hh with g | ⟨k, hk, g, _⟩
  · rw [g] at hz; cases hz
  · rw [g] at hz
    cases hz
    exact (x.kk.each k hk).nm.1
theorem set_snoc {M : List Hm} {h : Hm} {st : Str} (hz : h.name ∉ M.map (·.name)) : (M ++ [h]).map (setH h.name st) = M ++ [{ h with state := st }] := by
  rw [List.map_append]
  have e1 : M.map (setH h.name st) = M := by
    refine (List.map_congr_left fun y hy => ?_).trans (List.map_id _)
    unfold setH
    exact if_neg fun e => hz (List.mem_map.mpr ⟨y, hy, e⟩)
  rw [e1]
  congr 1
  show [setH h.name st h] = _
  unfold setH
  rw [if_pos rfl]
/-- a house more -/
theorem G47.add {gn : List Str} {W : Nat} {M : List Hm} {E : List Bw} {ks : List Kn} {z y st : Str} {kd : Option Str} {room : List Int} (x : G47 gn W M E ks) (zok : PySem.PyData.strOk z = true) (zl : nm20 z) (zn : z ∉ M.map (·.name)) (yok : PySem.PyData.strOk y = true) (sok : PySem.PyData.strOk st = true) (rl : room.length = W) (rb : ∀ n ∈ room, 0 ≤ n ∧ n ≤ 1000000000000) (nk : NewK ks M y room kd) (lt : M.length < 14) :
    G47 gn W (M ++ [⟨z, y, kd, st, room, []⟩]) E ks := by
  have en : (M ++ [(⟨z, y, kd, st, room, []⟩ : Hm)]).map (·.name) = M.map (·.name) ++ [z] := by rw [List.map_append]; rfl
  have N2 : Nms (M.map (·.name) ++ [z]) gn W := by
    refine ⟨by rw [List.length_append, List.length_map]; show _ + 1 ≤ 50; omega, x.N.gl, fun v hv => ?_, x.N.go, x.N.w1, x.N.w2⟩
    rcases List.mem_append.mp hv with hv | hv
    · exact x.N.ho v hv
    · rw [List.mem_singleton.mp hv]
      exact ⟨zok, by have := zl.1; omega⟩
  have G1 : MGood (M.map (·.name) ++ [z]) gn W M := ⟨x.G.good, x.G.each, x.G.room, fun h hh => List.mem_append_left _ (x.G.nm h hh)⟩
  have G2 := MGood.due N2 G1 (d := .add z y room kd) (o := .told) ⟨List.mem_append_right _ (List.mem_singleton.mpr rfl), rl, fun n hn => (rb n hn).1⟩ (.inr ⟨zn, rfl, rfl⟩)
  have G3 := MGood.due N2 G2 (d := .state z st) (o := .told) (List.mem_append_right _ (List.mem_singleton.mpr rfl)) (.inr ⟨by unfold nmsM; rw [List.map_append]; exact List.mem_append_right _ (List.mem_singleton.mpr rfl), rfl, rfl⟩)
  rw [set_snoc (h := ⟨z, y, kd, Str.ofString "open", room, []⟩) zn] at G3
  refine ⟨by rw [en]; exact N2, by rw [en]; exact G3, x.w8, fun h hh => ?_, fun h hh => ?_, fun v hv => by rw [en]; exact List.mem_append_left _ (x.ek v hv), x.ea, x.en, x.kk, x.k1, x.k7, fun k hk => ?_, fun h hh => ?_, by rw [List.length_append]; show _ + 1 ≤ 14; omega, fun h hh => by
    rcases List.mem_append.mp hh with hh | hh
    · exact x.lt h hh
    · rw [List.mem_singleton.mp hh]
      exact zl.2⟩
  · rcases List.mem_append.mp hh with hh | hh
    · exact x.yr h hh
    · rw [List.mem_singleton.mp hh]
      exact ⟨fun n hn => (rb n hn).2, yok, sok⟩
  · rcases List.mem_append.mp hh with hh | hh
    · exact x.rel h hh
    · rw [List.mem_singleton.mp hh]
      have : ofH z E = [] := List.filter_eq_nil_iff.mpr fun v hv e => zn (by rw [← of_decide_eq_true e]; exact x.ek v hv)
      show [] = (ofH z E).map bea
      rw [this]
      rfl
  · rw [ofK_snoc]
    by_cases c : optS kd = V.str k.name
    · rw [if_pos c]
      cases kd with
      | none => cases c
      | some v =>
        obtain ⟨k0, hk0, e0, _, _, lt0⟩ := nk
        injection c with c
        have : k = k0 := nodup_inj x.kk.nd k hk k0 hk0 (by rw [← c, e0])
        rw [this]
        rw [e0] at lt0
        omega
    · rw [if_neg c]
      have := x.ko k hk
      omega
  · rcases List.mem_append.mp hh with hh | hh
    · exact x.kh h hh
    · rw [List.mem_singleton.mp hh]
      cases kd with
      | none => exact .inl rfl
      | some v =>
        obtain ⟨k0, hk0, e0, e1, e2, _⟩ := nk
        exact .inr ⟨k0, hk0, by rw [e0], e1, e2⟩
end My
set_option maxHeartbeats 8000000
namespace My
open PySem PySem.Spec PyProof.Rows L2 GX GxR
abbrev s_scMad : Stmt := topS 46
abbrev n_scMad : List Str := ["_law_script", "_law_box_here", "_law_wares", "_law_world", "_law_estate", "_law_k", "_law_row", "_law_state"]
theorem scMad : FnScope n_scMad ["_law_script"] (defScope s_scMad) := ⟨rfl, rfl, rfl, by decide +kernel, rfl, by decide +kernel, by decide +kernel⟩
def gang47 (k : Nat) : Str := (Str.ofString "gang" ++ (⟨#[(("abcdefghijklmnopqrstuvwxyz" : Str).cps.toList.getD (k % 26) 0)]⟩ : Str)) ++ (⟨#[(("ab" : Str).cps.toList.getD (k / 26) 0)]⟩ : Str)
def gn47 : List Str := (List.range 40).map gang47
theorem gn47_ok : (gn47.all fun w => PySem.PyData.strOk w && decide (w.length ≤ 100)) = true := by decide +kernel
theorem gn47_nd : ((List.range 40).all fun i => (List.range 40).all fun j => i == j || decide (gang47 i ≠ gang47 j)) = true := by decide +kernel
theorem g47_at1 : ((List.range 40).all fun i => decide (atI ("abcdefghijklmnopqrstuvwxyz" : Str).cps.toList ((i : Int) % 26) = some (("abcdefghijklmnopqrstuvwxyz" : Str).cps.toList.getD (i % 26) 0))) = true := by decide +kernel
theorem g47_at2 : ((List.range 40).all fun i => decide (atI ("ab" : Str).cps.toList ((i : Int) / 26) = some (("ab" : Str).cps.toList.getD (i / 26) 0))) = true := by decide +kernel
theorem gang47_ne {i j : Nat} (hi : i < 40) (hj : j < i) : gang47 i ≠ gang47 j := by
  have := List.all_eq_true.mp (List.all_eq_true.mp gn47_nd i (List.mem_range.mpr hi)) j (List.mem_range.mpr (by omega))
  rw [Bool.or_eq_true] at this
  rcases this with h | h
  · have : i = j := by simpa using h
    omega
  · exact of_decide_eq_true h
theorem nms47 {W : Nat} (w1 : 1 ≤ W) (w8 : W ≤ 8) : Nms [] gn47 W := ⟨by decide, by decide, (fun z hz => by cases hz), fun z hz => by
  have := List.all_eq_true.mp gn47_ok z hz
  rw [Bool.and_eq_true, decide_eq_true_eq] at this
  exact this, w1, by omega⟩
def spWMade (K : PySem.W.Frag) (CE CH CB : Addr) (Ts : List Addr) : Sp := fun vs H Q _ => ∃ (a : Addr) (ns : List Int), vs = [.ref a] ∧ SqL K H a (ns.map V.int) ∧ ns.length ≤ 63 ∧ Tabs Ts H ∧
  ∀ (t e edx hd pd D lh le lk : Addr) (pps : List (Key × V)) (L : List Hp2) (W : Nat) (ws us kus : List V) (E : List Bw) (ks : List Kn) (H' : Hp), S47 CE CH CB Ts H H' e edx hd pd D lh le lk pps L W ws (L.map (·.2)) us E kus ks → G47 gn47 W (L.map (·.2)) E ks → E.length ≤ 40 → 1 ≤ L.length → H' t = some (.tup [.ref D, .ref e]) → Q (.ref t) H'
section
variable {P : Program} {w : World} {K : PySem.W.Frag} {mg : Str → Option Value} {base : Heap} {CE CH CB : Addr}
theorem ok_wmade {f fB fT fK fI fH fP fAH fSS TA NS : Addr} {fd fdB fdT fdK fdI fdH fdP fdAH fdSS : FuncData} {k : Nat} {Ts : List Addr} (F : Fun K "_law_made" "_law_made" s_scMad f fd) (X : Txt mg) (cc : ECls K CE) (mkE : Mk K CE fI) (mEst : mg "Estate" = some (.ref CE))
    (GB : FnOk P w K mg base CX0 (k + 1) fB fdB ["_law_script", "_law_k"] (spBoxM K)) (mB : mg "_law_box" = some (.ref fB)) (kB : PySem.W.keepIn K (.ref fB) = true) (bB : L2.Binds K fdB ["_law_script", "_law_k"] [])
    (GT : FnOk P w K mg base CX0 (k + 1) fT fdT ["_law_box_here", "_law_many"] spTakeW) (mT : mg "_law_take" = some (.ref fT)) (kT : PySem.W.keepIn K (.ref fT) = true) (bT : L2.Binds K fdT ["_law_box_here", "_law_many"] [])
    (GK : FnOk P w K mg base CX0 (k + 1) fK fdK ["_law_box_here", "_law_wares"] spWKnd) (mK : mg "_law_kinds" = some (.ref fK)) (kK : PySem.W.keepIn K (.ref fK) = true) (bK : L2.Binds K fdK ["_law_box_here", "_law_wares"] [])
    (GE : FnOk P w K mg base CX0 k fI fdI ["self"] (spEInit CE)) (bE : L2.Binds K fdI ["self"] [])
    (GH : FnOk P w K mg base CX0 (k + 1) fH fdH ["_law_box_here", "_law_kinds_here", "_law_wares", "_law_rows"] spWHou) (mH : mg "_law_house" = some (.ref fH)) (kH : PySem.W.keepIn K (.ref fH) = true) (bH : L2.Binds K fdH ["_law_box_here", "_law_kinds_here", "_law_wares", "_law_rows"] [])
    (GP : FnOk P w K mg base CX0 (k + 1) fP fdP ["_law_box_here", "_law_world", "_law_estate", "_law_name_here"] (spWBkd CE CH CB Ts gn47)) (mP : mg "_law_booked" = some (.ref fP)) (kP : PySem.W.keepIn K (.ref fP) = true) (bP : L2.Binds K fdP ["_law_box_here", "_law_world", "_law_estate", "_law_name_here"] [])
    (GAH : FnOk P w K mg base (L2.CX P w) (k + 1) fAH fdAH ["self", "name", "yard", "room", "kind"] (spAdd CE CH CB TA)) (MAH : Meth K CE "add_house" fAH) (bAH : L2.Binds K fdAH ["self", "name", "yard", "room", "kind"] [])
    (GSS : FnOk P w K mg base (L2.CX P w) (k + 1) fSS fdSS ["self", "name", "state"] (spSetS CE CH NS)) (MSS : Meth K CE "set_state" fSS) (bSS : L2.Binds K fdSS ["self", "name", "state"] []) :
    FnOk P w K mg base CX0 (k + 1 + 1) f fd ["_law_script"] (spWMade K CE CH CB Ts) := by
  have cE := cc.cls
  refine F.ok scMad (fun vs H Q E h => ?_) (fun cdv A outer s H vs Q E hr h => ?_)
  · obtain ⟨a, ns, rfl, _⟩ := h
    rfl
  · obtain ⟨sa, ns, rfl, hS, hl, tH, q⟩ := h
    refine ⟨_, (pss_cons (ps_set (i := 1) scMad.nd rfl (.inl rfl) (pe_call GB hr (by rfl) mB kB bB .nil pass0 (pa_cons (pv 0) (pa_cons pe_int pa_nil))))
(pss_cons (ps_set (i := 2) scMad.nd rfl (.inl rfl) (pe_ix ix_list (pe_lst (pa_cons pe_int (pa_cons pe_int (pa_cons pe_int (pa_cons pe_int pa_nil))))) (pe_call GT hr (by rfl) mT kT bT .nil pass0 (pa_cons (pv 1) (pa_cons pe_int pa_nil))) (fun _ _ => rfl)))
(pss_cons (ps_set (i := 3) scMad.nd rfl (.inl rfl) (pe_disp (pps_cons pe_str (pv 2) (pps_cons pe_str (pe_lst pa_nil) (pps_cons pe_str (pe_lst pa_nil) (pps_cons pe_str (pe_call GK hr (by rfl) mK kK bK .nil pass0 (pa_cons (pv 1) (pa_cons (pv 2) pa_nil))) pps_nil)))) (by rfl) (by rfl) (fun z => by cases z) (by decide)))
(pss_cons (ps_set (i := 4) scMad.nd rfl (.inl rfl) (pe_make0 mkE GE hr (by rfl) mEst bE .nil pass0))
(C8.pss_cut (ps_for PassesOwn.never rfl (pi_range1 (by rfl) X.range (pa_cons (pe_callB (call_max2 rfl) (by rfl) X.max (by decide +kernel) (pa_cons pe_int (pa_cons (pe_callB call_len_seq (by rfl) X.len PySem.boot_len (pa_cons (pe_slice sl_list (pv 0) po_none (po_some pe_int)) pa_nil)) pa_nil))) pa_nil)) (pg_name (i := 5) scMad.nd rfl (.inl rfl))
  (pss_cons (ps_set (i := 1) scMad.nd rfl (.inl rfl) (pe_call GB hr (by rfl) mB kB bB .nil pass0 (pa_cons (pv 0) (pa_cons (pv 5) pa_nil))))
  (pss_one (ps_if (PW.pt (pw_or (pt_cmpR op_gt (pe_call GT hr (by rfl) mT kT bT .nil pass0 (pa_cons (pv 1) (pa_cons pe_int pa_nil))) pe_int (nomark _)) (pw_or1 (pt_cmpR (op_eqD hr.units) (pe_dget (hu_of hr) (pv 3) pe_str (fun _ _ => rfl)) (pe_lst pa_nil) (nomark _)))))
    (pss_cons (ps_set (i := 6) scMad.nd rfl (.inl rfl) (pe_call GH hr (by rfl) mH kH bH .nil pass0 (pa_cons (pv 1) (pa_cons (pe_dget (hu_of hr) (pv 3) pe_str (fun _ _ => rfl)) (pa_cons (pv 2) (pa_cons (pe_dget (hu_of hr) (pv 3) pe_str (fun _ _ => rfl)) pa_nil))))))
    (pss_cons (ps_set (i := 7) scMad.nd rfl (.inl rfl) (pe_ix ix_list (pe_lst (pa_cons pe_str (pa_cons pe_str (pa_cons pe_str (pa_cons pe_str pa_nil))))) (pe_call GT hr (by rfl) mT kT bT .nil pass0 (pa_cons (pv 1) (pa_cons pe_int pa_nil))) (fun _ _ => rfl)))
    (pss_one (ps_if (pt_cmpR op_lt (pe_callB call_len_seq (by rfl) X.len PySem.boot_len (pa_cons (pe_dget (hu_of hr) (pv 3) pe_str (fun _ _ => rfl)) pa_nil)) pe_int (nomark _))
      (pss_cons (ps_expr (pe_meth (pv 4) cE MAH GAH hr bAH .nil passE (pa_cons (pe_ix ix_tup (pv 6) pe_int (fun _ _ => rfl)) (pa_cons (pe_ix ix_tup (pv 6) pe_int (fun _ _ => rfl)) (pa_cons (pe_ix ix_tup (pv 6) pe_int (fun _ _ => rfl)) (pa_cons (pe_ix ix_tup (pv 6) pe_int (fun _ _ => rfl)) pa_nil))))))
      (pss_cons (ps_expr (pe_meth (pv 4) cE MSS GSS hr bSS .nil passE (pa_cons (pe_ix ix_tup (pv 6) pe_int (fun _ _ => rfl)) (pa_cons (pv 7) pa_nil))))
      (pss_one (ps_expr (pe_bm PySem.F.plainAttrs_list PySem.F.slot_list_append PySem.F.type_list_append mt_append (pe_dget (hu_of hr) (pv 3) pe_str (fun _ _ => rfl)) (pa_cons (pe_op op_catA (pv 6) (pe_tup (pa_cons (pv 7) pa_nil))) pa_nil))))))
      pss_nil))))
    (pss_one (ps_expr (pe_call GP hr (by rfl) mP kP bP .nil pass0 (pa_cons (pv 1) (pa_cons (pv 3) (pa_cons (pv 4) (pa_cons (pe_op op_add_str (pe_op op_add_str pe_str (pe_ix ix_str pe_str (pe_op op_mod (pv 5) pe_int) (fun _ _ => rfl))) (pe_ix ix_str pe_str (pe_op op_fdiv (pv 5) pe_int) (fun _ _ => rfl))) pa_nil)))))))))))
(pss_one (ps_ret (pe_tup (pa_cons (pv 3) (pa_cons (pv 4) pa_nil)))))))))), ?_⟩
    refine ⟨_, rfl, sa, ns, 0, rfl, hS, by omega, by omega, fun b xs0 H1 nb s1 bv0 e1 => ?_⟩
    have B1 : BoxAt H1 b 0 := ⟨xs0, e1, bv0⟩
    refine ⟨by show 4 ≤ sizeLine; decide, fun l0 n0 => ?_⟩
    have s2 := same_upd (o := .lst [V.int 1, .int 2, .int 3, .int 8]) n0
    have e2 : upd H1 l0 (.lst [V.int 1, .int 2, .int 3, .int 8]) l0 = some (.lst [V.int 1, .int 2, .int 3, .int 8]) := upd_same
    have l0b := nb_of B1 n0
    have B2 := B1.same s2
    have s02 := s1.trans s2
    generalize upd H1 l0 (.lst [V.int 1, .int 2, .int 3, .int 8]) = H2 at e2 B2 s02 ⊢
    refine ⟨_, rfl, b, _, 4, rfl, B2, by decide, by decide, by decide, fun r1 H3 a1 b1 k3 B3 => ?_⟩
    have e3 := k3 _ _ (fun z => l0b (List.mem_singleton.mp z)) e2
    have s03 := same_kpb s02 nb k3
    obtain ⟨W, hW, w1, w8⟩ : ∃ W : Nat, atI [V.int 1, .int 2, .int 3, .int 8] r1 = some (.int (W : Int)) ∧ 1 ≤ W ∧ W ≤ 8 := by
      have : r1 = 0 ∨ r1 = 1 ∨ r1 = 2 ∨ r1 = 3 := by omega
      rcases this with rfl | rfl | rfl | rfl
      · exact ⟨1, rfl, by decide, by decide⟩
      · exact ⟨2, rfl, by decide, by decide⟩
      · exact ⟨3, rfl, by decide, by decide⟩
      · exact ⟨8, rfl, by decide, by decide⟩
    refine ⟨l0, _, r1, .int (W : Int), rfl, rfl, SqL.of e3, hW, ?_⟩
    clear e2 e3 B2 s02
    refine fun D nD => ?_
    have eD : upd H3 D (.dK []) D = some (.dK []) := upd_same
    have s4 := same_upd (o := .dK []) nD
    have s04 := s03.trans s4
    have B4 := B3.same s4
    have fD := s03.free nD
    have Db : D ≠ b := nb_of B3 nD
    generalize upd H3 D (.dK []) = H4 at eD s04 B4 ⊢
    refine ⟨_, rfl, ?_⟩
    refine ⟨by show 0 ≤ sizeLine; decide, fun lh nlh => ?_⟩
    have s5 := same_upd (o := .lst []) nlh
    have elh : upd H4 lh (.lst []) lh = some (.lst []) := upd_same
    have eD5 := s5 _ _ eD
    have s05 := s04.trans s5
    have flh := s04.free nlh
    have hlb : lh ≠ b := nb_of B4 nlh
    have B5 := B4.same s5
    generalize upd H4 lh (.lst []) = H5 at s5 elh eD5 s05 B5 ⊢
    refine ⟨by show 0 ≤ sizeLine; decide, fun le nle => ?_⟩
    have s6 := same_upd (o := .lst []) nle
    have ele : upd H5 le (.lst []) le = some (.lst []) := upd_same
    have eD6 := s6 _ _ eD5
    have elh6 := s6 _ _ elh
    have s06 := s05.trans s6
    have fle := s05.free nle
    have heb : le ≠ b := nb_of B5 nle
    have h1e : lh ≠ le := fun z => by rw [← z, elh] at nle; cases nle
    have B6 := B5.same s6
    generalize upd H5 le (.lst []) = H6 at s6 ele eD6 elh6 s06 B6 ⊢
    clear s5 elh eD5 s05 B5 s6 nlh nle B4 eD s04 B3
    refine ⟨_, rfl, _, rfl, b, _, W, rfl, B6, by omega, w1, w8, fun lk kus ks H7 k7 B7 nlk elk pk kok k1' k7' => ?_⟩
    have s07 := same_kpb s06 nb k7
    have eD7 := k7 _ _ (fun z => Db (List.mem_singleton.mp z)) eD6
    have elh7 := k7 _ _ (fun z => hlb (List.mem_singleton.mp z)) elh6
    have ele7 := k7 _ _ (fun z => heb (List.mem_singleton.mp z)) ele
    refine ⟨eD7, wdkv W lh le lk, rfl, (by show 4 ≤ 15; decide), ?_⟩
    have em : mergeK [] (wdkv W lh le lk) = wdkv W lh le lk := rfl
    rw [em]
    have kD : KTu H7 (upd H7 D (.dK (wdkv W lh le lk))) := fun y xs hy => by
      rw [upd_ne (fun z => by rw [z, eD7] at hy; cases hy)]
      exact hy
    have kL : ∀ {y : Addr} {xs : List V}, H7 y = some (.lst xs) → upd H7 D (.dK (wdkv W lh le lk)) y = some (.lst xs) := fun {y xs} hy => by
      rw [upd_ne (fun z => by rw [z, eD7] at hy; cases hy)]
      exact hy
    have e8 : upd H7 D (.dK (wdkv W lh le lk)) D = some (.dK (wdkv W lh le lk)) := upd_same
    have s08 : Same H (upd H7 D (.dK (wdkv W lh le lk))) := fun y o hy => by
      rw [upd_ne (fun z => by rw [z, fD] at hy; cases hy)]
      exact s07 _ _ hy
    have elh8 := kL elh7
    have ele8 := kL ele7
    have elk8 := kL elk
    have pk8 : Paired (KndAt (upd H7 D (.dK (wdkv W lh le lk)))) kus ks := pk.mono fun _ _ r => r.kt kD
    have flk := s06.free nlk
    have h2 : lh ≠ lk := fun z => by rw [← z, elh6] at nlk; cases nlk
    have h3 : le ≠ lk := fun z => by rw [← z, ele] at nlk; cases nlk
    clear kD kL eD7 elh7 ele7 elk pk s07 k7 B7 eD6 elh6 ele s06 B6 Db hlb heb nlk em
    generalize upd H7 D (.dK (wdkv W lh le lk)) = H8 at e8 s08 elh8 ele8 elk8 pk8 ⊢
    refine fun e edx ne nedx nex => ?_
    refine ⟨e, edx, rfl, upd_same, fun hd pd H9 nhd npd hne k9 eo eh ep => ?_⟩
    have sA : Same H8 (upd (upd H8 edx (.own e)) e (.ins CE edx [])) := (same_upd nedx).trans (same_upd (by rw [upd_ne (Ne.symm nex)]; exact ne))
    have s9 : Same H8 H9 := fun y o ey => k9 _ _ (fun z => by
      rw [List.mem_singleton.mp z, ne] at ey
      cases ey) (sA _ _ ey)
    have x0 : S47 CE CH CB Ts H H9 e edx hd pd D lh le lk [] [] W [] [] [] [] kus ks := S47.new ((Fw.refl tH).then (s08.trans s9)) eo eh ep hne (fun z => by rw [z, s9 _ _ e8] at eh; cases eh) (fun z => by rw [z, s9 _ _ e8] at ep; cases ep) (s08.free ne) (s08.free (sA.free nhd)) (s08.free (sA.free npd)) fD (s9 _ _ e8) (s9 _ _ elh8) (s9 _ _ ele8) (s9 _ _ elk8) (pk8.mono fun _ _ r => r.kt (Same.kt s9)) h1e h2 h3 flh fle flk
    have g0 : G47 gn47 W [] [] ks := ⟨nms47 w1 w8, ⟨x0.es.good, (fun h hh => by cases hh), (fun h hh => by cases hh), fun h hh => by cases hh⟩, w8, (fun h hh => by cases hh), (fun h hh => by cases hh), (fun h hh => by cases hh), (fun h hh => by cases hh), (fun h hh => by cases hh), kok, k1', k7', (fun k9 hk9 => by have := (kok.each k9 hk9).m1; show (0 : Int) ≤ _; omega), (fun h hh => by cases hh), Nat.zero_le _, (fun h hh => by cases hh)⟩
    clear s9 sA eo eh ep k9 nhd npd hne ne nedx nex e8 s08 elh8 ele8 elk8 pk8 fD flh fle flk h1e h2 h3
    refine ⟨rfl, fun σ H' => ∃ (y1 y5 y6 y7 : Option V) (pps : List (Key × V)) (L : List Hp2) (ws us : List V) (Es : List Bw), σ = [some (.ref sa), y1, some (.int (W : Int)), some (.ref D), some (.ref e), y5, y6, y7] ∧ S47 CE CH CB Ts H H' e edx hd pd D lh le lk pps L W ws (L.map (·.2)) us Es kus ks ∧ G47 gn47 W (L.map (·.2)) Es ks ∧ Es.length ≤ 40 ∧ 1 ≤ L.length, ?_, fun σ H10 hm => ?_⟩
    · refine ⟨_, rfl, _, rfl, sa, _, rfl, x0.fw.seqL tH hS, fun p np => ?_⟩
      refine ⟨p, _, rfl, .inl (SqL.of upd_same), 3, _, rfl, ?_⟩
      have x1 := x0.same (same_upd (o := .lst (cutV (ns.map V.int) none (some 40))) np)
      have lc : (cutV (ns.map V.int) none (some 40)).length ≤ 40 := by
        rw [show (some (40 : Int)) = some ((40 : Nat) : Int) from rfl, cutV_take, List.length_take]
        omega
      generalize upd H9 p (.lst (cutV (ns.map V.int) none (some 40))) = H10 at x1 ⊢
      generalize (cutV (ns.map V.int) none (some 40)).length = m at lc ⊢
      obtain ⟨n, hn, n3, n40⟩ : ∃ n : Nat, (if (m : Int) > 3 then (m : Int) else 3) = (n : Int) ∧ 3 ≤ n ∧ n ≤ 40 := by
        split
        · exact ⟨m, rfl, by omega, lc⟩
        · exact ⟨3, rfl, by omega, by omega⟩
      rw [hn]
      refine ⟨_, rfl, by omega, by omega, ?_⟩
      rw [Int.toNat_natCast]
      refine for_range (lo := 0) (n := n) (fun i σ H' => ∃ (y1 y5 y6 y7 : Option V) (pps : List (Key × V)) (L : List Hp2) (ws us : List V) (Es : List Bw), σ = [some (.ref sa), y1, some (.int (W : Int)), some (.ref D), some (.ref e), y5, y6, y7] ∧ S47 CE CH CB Ts H H' e edx hd pd D lh le lk pps L W ws (L.map (·.2)) us Es kus ks ∧ G47 gn47 W (L.map (·.2)) Es ks ∧ Es.length ≤ i ∧ (1 ≤ i → 1 ≤ L.length) ∧ ∀ y, Booked (L.map (·.2)) y → ∃ j, j < i ∧ y = gang47 j)
        ⟨some (.ref b), none, none, none, [], [], [], [], [], rfl, x1, g0, Nat.le_refl _, (fun z => by omega), fun y hy => ?_⟩ (fun i σ H11 hi p => ?_) (fun σ H11 p => ?_)
      · obtain ⟨_, hh, _⟩ := hy
        cases hh
      · obtain ⟨y1, y5, y6, y7, pps, L, ws, us, Es, rfl, x, g, el, l1, bk⟩ := p
        rw [show (0 : Int) + (i : Int) = (i : Int) from Int.zero_add _]
        refine ⟨_, rfl, _, rfl, sa, ns, i, rfl, x.fw.seqL tH hS, by omega, by omega, fun b2 xs2 H12 nb2 s12 bv2 eb2 => ?_⟩
        have B12 : BoxAt H12 b2 0 := ⟨xs2, eb2, bv2⟩
        have x12 := x.same s12
        have fb2 := x.fw.free tH nb2
        have d1 : b2 ≠ lh := fun z => by rw [z, x.hh] at nb2; cases nb2
        have d2 : b2 ≠ le := fun z => by rw [z, x.he] at nb2; cases nb2
        have d3 : b2 ≠ lk := fun z => by rw [z, x.hk] at nb2; cases nb2
        have lws : ws.length = L.length := by rw [x.rows.length, List.length_map]
        clear s12 bv2 eb2 x nb2
        refine if_midN (R := fun bv H' => S47 CE CH CB Ts H H' e edx hd pd D lh le lk pps L W ws (L.map (·.2)) us Es kus ks ∧ BoxAt H' b2 10 ∧ (bv = false → 1 ≤ L.length)) (fun bv H13 r => ?_) (fun Q0 hQ => ?_)
        · obtain ⟨x13, B13, lb⟩ := r
          cases bv with
          | true =>
            rw [if_pos rfl]
            refine ⟨_, rfl, _, rfl, D, .ref lk, rfl, dgetR (Rd.of x13.ob) rfl, _, rfl, _, rfl, D, .ref lh, rfl, dgetR (Rd.of x13.ob) rfl, b2, lk, lh, _, W, kus, ws, ks, L.map (·.2), rfl, B13, by omega, w1, w8, x13.hk, x13.knds, g.kk, g.k1, g.k7, x13.hh, x13.rows, by have := g.ml; omega, d3.symm, d1.symm, fun rt am z y room kd H14 k14 B14 ert eam zok zl zn yok rl rb nk => ?_⟩
            have zl1 := zl.1
            have x14 := x13.box tH B13 k14 fb2 ⟨d1, d2, d3⟩
            refine ⟨by show 4 ≤ sizeLine; decide, fun l15 n15 => ?_⟩
            have s15 := same_upd (o := .lst [V.str "open", .str "open", .str "open", .str "shut"]) n15
            have e15 : upd H14 l15 (.lst [V.str "open", .str "open", .str "open", .str "shut"]) l15 = some (.lst [V.str "open", .str "open", .str "open", .str "shut"]) := upd_same
            have l15b := nb_of B14 n15
            have B15 := B14.same s15
            have x15 := x14.same s15
            have ert15 := s15 _ _ ert
            have eam15 := s15 _ _ eam
            generalize upd H14 l15 (.lst [V.str "open", .str "open", .str "open", .str "shut"]) = H15 at e15 B15 x15 ert15 eam15 ⊢
            refine ⟨_, rfl, b2, _, 4, rfl, B15, by decide, by decide, by decide, fun r2 H16 a2 b3 k16 B16 => ?_⟩
            have e16 := k16 _ _ (fun z => l15b (List.mem_singleton.mp z)) e15
            have x16 := x15.box tH B15 k16 fb2 ⟨d1, d2, d3⟩
            have ert16 := box_kt B15 k16 _ _ ert15
            have eam16 := box_kt B15 k16 _ _ eam15
            obtain ⟨st, hst, sok⟩ : ∃ st : Str, atI [V.str "open", .str "open", .str "open", .str "shut"] r2 = some (.str st) ∧ PySem.PyData.strOk st = true := by
              have : r2 = 0 ∨ r2 = 1 ∨ r2 = 2 ∨ r2 = 3 := by omega
              rcases this with rfl | rfl | rfl | rfl
              · exact ⟨"open", rfl, by decide +kernel⟩
              · exact ⟨"open", rfl, by decide +kernel⟩
              · exact ⟨"open", rfl, by decide +kernel⟩
              · exact ⟨"shut", rfl, by decide +kernel⟩
            refine ⟨l15, _, r2, .str st, rfl, rfl, SqL.of e16, hst, ?_⟩
            clear e15 e16 x14 x15 B14 B15 k14 k16 s15 ert15 eam15 ert eam x13 B13 n15 l15b
            refine ⟨_, rfl, D, .ref lh, rfl, dgetR (Rd.of x16.ob) rfl, lh, _, rfl, .inl (SqL.of x16.hh), _, _, rfl, rfl, _, rfl, ite2 (fun c => ?_) (fun c => ?_)⟩
            · have c14 : (ws.length : Int) < 14 := of_decide_eq_true c
              have l13 : L.length < 14 := by omega
              have nz : z ∉ names L := fun hin => zn (by rw [List.map_map]; exact hin)
              refine ⟨_, rfl, e, edx, _, rfl, x16.es.obj, rfl, _, rfl, rt, _, 0, .str z, rfl, rfl, SqT.of ert16, rfl, _, rfl, rt, _, 1, .str y, rfl, rfl, SqT.of ert16, rfl, _, rfl, rt, _, 2, .ref am, rfl, rfl, SqT.of ert16, rfl, _, rfl, rt, _, 3, optS kd, rfl, rfl, SqT.of ert16, rfl, ?_⟩
              dsimp (config := { proj := false }) only [tNil, List.cons_append, List.nil_append, List.append_nil]
              refine ⟨e, edx, hd, pd, am, L, z, y, kd, rfl, x16.es.eh, by omega, fun hz => absurd hz nz, fun _ a dx b' bdx d H17 na nb' nd' kp ea eb ed eh => ?_⟩
              have aft := AfterL.tabs x16.es x16.fw.tabs (x16.es.addL nz (by omega) (by omega) (by omega) (by omega) (fun n hn => (rb n hn).1) eam16 na nb' nd' kp ea eb ed eh)
              obtain ⟨pps', L', x17, eL', kt17, kl17⟩ := x16.deed tH aft
              have ert17 := kt17 _ _ ert16
              have eam17 := kt17 _ _ eam16
              clear aft kl17 kt17 ea eb ed eh kp na nb' nd'
              have zL' : z ∈ (L'.map (·.2)).map (·.name) := by rw [eL', List.map_append]; exact List.mem_append_right _ (List.mem_singleton.mpr rfl)
              obtain ⟨h0, hh0, hn0⟩ := List.mem_map.mp zL'
              obtain ⟨p0, hp0, rfl⟩ := List.mem_map.mp hh0
              refine ⟨_, rfl, e, edx, _, rfl, x17.es.obj, rfl, _, rfl, rt, _, 0, .str z, rfl, rfl, SqT.of ert17, rfl, _, rfl, ?_⟩
              dsimp (config := { proj := false }) only [tNil, List.cons_append, List.nil_append, List.append_nil]
              refine ⟨e, edx, hd, pd, L', z, st, rfl, x17.es.eh, (fun p hp => (x17.es.each p hp).obj), by omega, fun p hp hpn => ?_, fun nz' => absurd (List.mem_map.mpr ⟨p0, hp0, hn0⟩) nz'⟩
              have aft := AfterL.tabs x17.es x17.fw.tabs (x17.es.setSL hp (st := st))
              obtain ⟨pps2, L2, x18, eL2, kt18, kl18⟩ := x17.deed tH aft
              have ert18 := kt18 _ _ ert17
              have eam18 := kt18 _ _ eam17
              generalize upd H17 p.1.a (.ins CH p.1.dx (hfl { p.2 with state := st } p.1.b)) = H18 at x18 ert18 eam18 ⊢
              clear aft kl18 kt18
              have eL3 : L2.map (·.2) = L.map (·.2) ++ [⟨z, y, kd, st, room, []⟩] := by
                rw [eL2, hpn, eL']
                exact set_snoc (h := ⟨z, y, kd, Str.ofString "open", room, []⟩) zn
              refine ⟨_, rfl, D, .ref lh, rfl, dgetR (Rd.of x18.ob) rfl, .inl ⟨rfl, _, SqL.of x18.hh⟩, _, rfl, _, rfl, by show 1 ≤ sizeLine; decide, fun p1 np1 => ?_⟩
              have s19 := same_upd (o := .tup [V.str st]) np1
              have e19 : upd H18 p1 (.tup [V.str st]) p1 = some (.tup [V.str st]) := upd_same
              have ert19 := s19 _ _ ert18
              have eam19 := s19 _ _ eam18
              have x19 := x18.same s19
              generalize upd H18 p1 (.tup [V.str st]) = H19 at e19 ert19 eam19 x19 ⊢
              refine catA_of ert19 e19 (by show 4 + 1 ≤ sizeLine; decide) fun rw H20 s20 erw => ?_
              have x20 := x19.same s20
              refine ⟨lh, ws, .ref rw, rfl, rfl, x20.hh, small63 (by omega), ?_⟩
              have x21 := x20.row (h := ⟨z, y, kd, st, room, []⟩) ⟨rw, am, rfl, erw, s20 _ _ eam19⟩
              have g2 := g.add zok zl zn yok sok rl rb nk (by rw [List.length_map]; exact l13)
              rw [← eL3] at x21 g2
              refine ⟨_, _, _, _, pps2, L2, _, us, Es, rfl, x21, g2, by omega, fun _ => ?_, fun v hv => ?_⟩
              · have := congrArg List.length eL3
                rw [List.length_append, List.length_map] at this
                have h1 : [(⟨z, y, kd, st, room, []⟩ : Hm)].length = 1 := rfl
                omega
              · rw [eL3] at hv
                obtain ⟨hm, h1, em, h2, h3⟩ := hv
                rcases List.mem_append.mp h1 with h1 | h1
                · obtain ⟨j, g1, g3⟩ := bk v ⟨hm, h1, em, h2, h3⟩
                  exact ⟨j, by omega, g3⟩
                · rw [List.mem_singleton.mp h1] at h2
                  cases h2
            · have c14 : ¬ (ws.length : Int) < 14 := fun z => c (decide_eq_true z)
              exact ⟨_, _, _, _, pps, L, ws, us, Es, rfl, x16, g, by omega, fun _ => by omega, fun y hy => by
                obtain ⟨j, h1, h2⟩ := bk y hy
                exact ⟨j, by omega, h2⟩⟩
          | false =>
            rw [if_neg (by decide)]
            have i40 : i < 40 := by omega
            have at1 : atI ("abcdefghijklmnopqrstuvwxyz" : Str).cps.toList ((i : Int) % 26) = some (("abcdefghijklmnopqrstuvwxyz" : Str).cps.toList.getD (i % 26) 0) := of_decide_eq_true (List.all_eq_true.mp g47_at1 i (List.mem_range.mpr i40))
            have at2 : atI ("ab" : Str).cps.toList ((i : Int) / 26) = some (("ab" : Str).cps.toList.getD (i / 26) 0) := of_decide_eq_true (List.all_eq_true.mp g47_at2 i (List.mem_range.mpr i40))
            refine ⟨_, rfl, _, rfl, _, rfl, _, rfl, i, 26, rfl, rfl, (by show (0 : Int) < 26; decide), _, _, _, rfl, rfl, by decide +kernel, at1, ?_⟩
            refine ⟨_, _, rfl, rfl, ?_, ?_⟩
            · show 4 + 1 ≤ sizeLine
              decide
            refine ⟨_, rfl, i, 26, rfl, rfl, ⟨by decide, by decide⟩, _, _, _, rfl, rfl, by decide +kernel, at2, ?_⟩
            refine ⟨_, _, rfl, rfl, ?_, ?_⟩
            · rw [Str.length_append]
              show 4 + 1 + 1 ≤ sizeLine
              decide
            refine ⟨b2, D, e, edx, hd, pd, lh, le, lk, _, gang47 i, H, pps, L, W, ws, us, kus, Es, ks, rfl, tH, B13, by decide, fb2, d1, d2, d3, x13, g, by omega, lb rfl, List.mem_map.mpr ⟨i, List.mem_range.mpr i40, rfl⟩, fun hb => ?_, fun pps' L' us' E' H' x' g' el' bk' ll _ => ?_⟩
            · obtain ⟨j, h1, h2⟩ := bk _ hb
              exact gang47_ne i40 h1 h2
            · refine ⟨_, _, _, _, pps', L', ws, us', E', rfl, x', g', by omega, fun _ => by rw [ll]; exact lb rfl, fun y hy => ?_⟩
              rcases bk' y hy with hy | hy
              · obtain ⟨j, h1, h2⟩ := bk y hy
                exact ⟨j, by omega, h2⟩
              · exact ⟨i, by omega, hy⟩
        · refine ⟨_, rfl, b2, _, 3, rfl, B12, by decide, by decide, by decide, fun r1 H13 a1 b1 k13 B13 => ?_⟩
          have x13 := x12.box tH B12 k13 fb2 ⟨d1, d2, d3⟩
          refine ⟨r1, 0, rfl, rfl, _, rfl, ite2 (fun c => hQ _ _ ⟨x13, B13.le (by decide), fun z => by cases z⟩) (fun c => ?_)⟩
          refine ⟨_, rfl, D, .ref lh, rfl, dgetR (Rd.of x13.ob) rfl, by show 0 ≤ sizeLine; decide, fun l14 n14 => ?_⟩
          have s14 := same_upd (o := .lst []) n14
          have x14 := x13.same s14
          refine ⟨_, _, .lst (SqL.of x14.hh) (dp_hrows x14.rows), .lst (SqL.of upd_same) .nil, sh_hrows g.okn, rfl, _, rfl, hQ _ _ ⟨x14, (B13.same s14).le (by decide), fun z => ?_⟩⟩
          rw [eqv_hrows] at z
          have := of_decide_eq_false z
          cases L with
          | nil => exact absurd rfl this
          | cons y ys => exact Nat.succ_le_succ (Nat.zero_le _)
      · obtain ⟨y1, y5, y6, y7, pps, L, ws, us, Es, rfl, x, g, el, l1, bk⟩ := p
        exact ⟨y1, y5, y6, y7, pps, L, ws, us, Es, rfl, x, g, by omega, l1 (by omega)⟩
    · obtain ⟨y1, y5, y6, y7, pps, L, ws, us, Es, rfl, x, g, el, l1⟩ := hm
      refine ⟨_, rfl, _, rfl, by show 2 ≤ sizeLine; decide, fun t nt => ?_⟩
      exact q t e edx hd pd D lh le lk pps L W ws us kus Es ks _ (x.same (same_upd nt)) g el l1 upd_same
end
end My
set_option maxHeartbeats 4000000
namespace My
open PySem PySem.Spec PyProof.Rows L2 GX GxR
/-- one site of the law: a yard, what is left there -/
def SitAt (H : Hp) (v : V) (q : Str × List Int) : Prop := ∃ t u : Addr, v = .ref t ∧ H t = some (.tup [.str q.1, .ref u]) ∧ H u = some (.tup (q.2.map V.int))
theorem SitAt.kt {H H' : Hp} {v : V} {q : Str × List Int} (kt : KTu H H') (h : SitAt H v q) : SitAt H' v q := by
  obtain ⟨t, u, h0, h1, h2⟩ := h
  exact ⟨t, u, h0, kt _ _ h1, kt _ _ h2⟩
end My
set_option maxHeartbeats 1000000
/-! the rows of the booked gangs, their placings known to have no dict -/
namespace My
open PySem PySem.W PySem.Spec PyProof.Rows L2 GX GxR
def BrAtF (M : List Hm) (H : Hp) (t : Addr) (z : Str) : Prop := ∃ h ∈ M, ∃ em ∈ h.es, em.x.key = z ∧ ∃ u ps, H t = some (.tup [.str z, .int em.x.b, .int em.x.e, .ref u]) ∧ PairsF H u ps ∧ PlOf M z ps
theorem BrAtF.at {M : List Hm} {H : Hp} {t : Addr} {z : Str} (h : BrAtF M H t z) : BrAt M H t z := by
  obtain ⟨h, h1, em, h2, h3, u, ps, h4, h5, h6⟩ := h
  exact ⟨h, h1, em, h2, h3, u, ps, h4, h5.at, h6⟩
theorem BrAtF.same {M : List Hm} {H H' : Hp} (s : Same H H') {t : Addr} {z : Str} (h : BrAtF M H t z) : BrAtF M H' t z := by
  obtain ⟨h, h1, em, h2, h3, u, ps, h4, h5, h6⟩ := h
  exact ⟨h, h1, em, h2, h3, u, ps, s _ _ h4, h5.same s, h6⟩
theorem BrAtF.put {M : List Hm} {H : Hp} {D t : Addr} {z : Str} {xs ys : List V} (e : H D = some (.lst xs)) (h : BrAtF M H t z) : BrAtF M (upd H D (.lst ys)) t z := by
  obtain ⟨h, h1, em, h2, h3, u, ps, h4, h5, h6⟩ := h
  have kt : KTu H (upd H D (.lst ys)) := fun q vs hq => by rw [upd_ne (fun g => by rw [g, e] at hq; cases hq)]; exact hq
  have kp : Kp [D] H (upd H D (.lst ys)) := fun q o hn hq => by rw [upd_ne (fun g => hn (List.mem_singleton.mpr g))]; exact hq
  exact ⟨h, h1, em, h2, h3, u, ps, kt _ _ h4, h5.kq2 kp kt (fun x hx o us g => by rw [List.mem_singleton.mp hx, e] at g; cases g), h6⟩
def spBRowsF (CE CH CB : Addr) : Sp := fun vs H Q _ => ∃ (e edx hd pd : Addr) (pps : List (Key × V)) (L : List Hp2), vs = [.ref e] ∧ EsAt CE CH CB H e edx hd pd pps L ∧
  ∀ (l : Addr) (zs : List Str) (ts : List Addr) (H' : Hp), Same H H' → H l = none → BNms (L.map (·.2)) zs → H' l = some (.lst (ts.map V.ref)) → Paired (BrAtF (L.map (·.2)) H') ts zs → Q (.ref l) H'
end My
set_option maxHeartbeats 1000000
namespace My
open PySem PySem.Spec PyProof.Rows L2 GX GxR
abbrev s_scBRows : Stmt := methS 28 11
abbrev n_scBRows : List Str := ["self", "rows", "name", "begin", "end"]
theorem scBRows : FnScope n_scBRows ["self"] (defScope s_scBRows) := ⟨rfl, rfl, rfl, by decide +kernel, rfl, by decide +kernel, by decide +kernel⟩
section
variable {P : Program} {w : World} {K : PySem.W.Frag} {mg : Str → Option Value} {base : Heap} {CE CH CB : Addr}
theorem ok_brows {f fS NG : Addr} {fd fdS : FuncData} {k : Nat} (F : Fun K "booked_rows" "Estate.booked_rows" s_scBRows f fd) (c : ECls K CE) (mSorted : mg "sorted" = none)
    (GS : FnOk P w K mg base (L2.CX P w) k fS fdS ["self", "name"] (spStOf CE CH CB NG)) (MS : Meth K CE "stretch_of" fS) (bS : Binds K fdS ["self", "name"] []) : FnOk P w K mg base CX0 (k + 1) f fd ["self"] (spBRowsF CE CH CB) := by
  have cE := c.cls
  refine F.ok scBRows (fun vs H Q E h => ?_) (fun cdv A outer s H vs Q E hr h => ?_)
  · obtain ⟨e, edx, hd, pd, pps, L, rfl, _⟩ := h
    rfl
  · obtain ⟨e, edx, hd, pd, pps, L, rfl, B, q⟩ := h
    refine ⟨_, (pss_cons (ps_set (i := 1) scBRows.nd rfl (.inl rfl) (pe_lst pa_nil))
(C8.pss_cut (ps_for PassesOwn.never rfl (pi_list (pe_callB (SX.cr_sortDk rfl hr.units) (by rfl) mSorted (by decide +kernel) (pa_cons (pe_fld (pv 0) (by rfl)) pa_nil))) (pg_name (i := 2) scBRows.nd rfl (.inl rfl))
  (pss_cons (ps_asg (pe_meth (pv 0) cE MS GS hr bS .nil passE (pa_cons (pv 2) pa_nil)) (pg_tup rfl (pgs_cons (pg_name (i := 3) scBRows.nd rfl (.inl rfl)) (pgs_cons (pg_name (i := 4) scBRows.nd rfl (.inl rfl)) pgs_nil))))
  (pss_one (ps_expr (pe_bm PySem.F.plainAttrs_list PySem.F.slot_list_append PySem.F.type_list_append mt_append (pv 1) (pa_cons (pe_tup (pa_cons (pv 2) (pa_cons (pv 3) (pa_cons (pv 4) (pa_cons (pe_dget (hu_of hr) (pe_fld (pv 0) (by rfl)) (pv 2) (fun _ _ => rfl)) pa_nil))))) pa_nil))))))
(pss_one (ps_ret (pv 1))))), ?_⟩
    refine ⟨by show 0 ≤ sizeLine; decide, fun l nl => ?_⟩
    have s0 := same_upd (o := .lst []) nl
    have e0 : upd H l (.lst []) l = some (.lst []) := upd_same
    generalize upd H l (.lst []) = H0 at s0 e0 ⊢
    have B0 := B.same s0
    obtain ⟨zs, z1, z2, z3, z4⟩ := B.plk
    refine ⟨fun σ H' => ∃ (y2 y3 y4 : Option V) (ys : List Str) (ts : List Addr), σ = [some (.ref e), some (.ref l), y2, y3, y4] ∧ BNms (L.map (·.2)) ys ∧ Same H H' ∧ H' l = some (.lst (ts.map V.ref)) ∧ Paired (BrAtF (L.map (·.2)) H') ts ys, ?_, fun σ H1 hm => ?_⟩
    · refine ⟨_, rfl, e, CE, edx, _, .ref pd, rfl, B0.obj, c.cls, c.placings, rfl, pd, pps, zs, rfl, Rd.of B0.pl, z1, by omega, fun ys p pm so np => ⟨p, rfl, ⟨_, SqL.of upd_same⟩, ?_⟩⟩
      have s01 := same_upd (o := .lst (ys.map V.str)) np
      have s1 := s0.trans s01
      have e01 := s01 _ _ e0
      have ep : upd H0 p (.lst (ys.map V.str)) p = some (.lst (ys.map V.str)) := upd_same
      generalize upd H0 p (.lst (ys.map V.str)) = H1 at s1 e01 ep ⊢
      have lp : p ≠ l := fun z => by rw [z, e0] at np; cases np
      have ylen : ys.length ≤ 100 := by rw [pm.length_eq]; exact z3
      have bn : BNms (L.map (·.2)) ys := ⟨pm.nodup_iff.mpr z2, so, fun z => pm.mem_iff.trans (z4 z)⟩
      refine for_list (K := K) (xs := ys.map V.str) (fun i σ H' => ∃ (y2 y3 y4 : Option V) (ts : List Addr), σ = [some (.ref e), some (.ref l), y2, y3, y4] ∧ Same H H' ∧ H' p = some (.lst (ys.map V.str)) ∧ H' l = some (.lst (ts.map V.ref)) ∧ ts.length ≤ i ∧ Paired (BrAtF (L.map (·.2)) H') ts (ys.take i))
        ⟨none, none, none, [], rfl, s1, ep, e01, Nat.le_refl _, .nil⟩ (fun i σ H' _ p => ?_) (fun i x σ H2 hx p => ?_) (fun σ H2 p => ?_)
      · obtain ⟨_, _, _, _, _, _, e, _⟩ := p
        exact SqL.of e
      · obtain ⟨y2, y3, y4, ts, rfl, s2, ep2, el2, lts, pT⟩ := p
        obtain ⟨z, hz, rfl⟩ := map_get hx
        have hi : i < ys.length := (List.getElem?_eq_some_iff.mp hz).1
        have hb : Booked (L.map (·.2)) z := (bn.is z).mp (List.mem_of_getElem? hz)
        have B2 := B.same s2
        obtain ⟨h0, m0, em0, em1, em2⟩ := id hb
        have lz : z.length ≤ 100 := by rw [← em2]; exact B.good.keys h0 m0 em0 em1
        refine ⟨_, rfl, e, edx, _, rfl, B2.obj, rfl, _, rfl, e, edx, hd, pd, pps, L, z, rfl, B2, lz, fun p0 hp0 em hem hek t H3 s3 et => ?_, fun nb => absurd hb nb⟩
        have B3 := B2.same s3
        have el3 := s3 _ _ el2
        have ep3 := s3 _ _ ep2
        have pT3 := pT.mono fun _ _ g => g.same s3
        refine ⟨t, _, rfl, SqT.of et, rfl, _, _, rfl, _, _, rfl, rfl, ?_⟩
        obtain ⟨v, hv⟩ := Option.isSome_iff_exists.mp (B3.booked_iff.mpr hb)
        obtain ⟨u, ps, rfl, hu, hpl⟩ := B3.pls z v hv
        have ltn : ts.length < 110 := by omega
        refine ⟨_, rfl, .inl ⟨rfl, _, SqL.of el3⟩, _, rfl, _, rfl, _, rfl, _, rfl, e, CE, edx, _, .ref pd, rfl, B3.obj, c.cls, c.placings, rfl, _, rfl, pd, .ref u, rfl, dgetR (Rd.of B3.pl) hv, by show 4 ≤ sizeLine; decide, fun t2 nt2 => ?_⟩
        have s4 := same_upd (o := .tup [V.str z, .int em.x.b, .int em.x.e, .ref u]) nt2
        have et4 : upd H3 t2 (.tup [V.str z, .int em.x.b, .int em.x.e, .ref u]) t2 = some (.tup [V.str z, .int em.x.b, .int em.x.e, .ref u]) := upd_same
        have el4 := s4 _ _ el3
        have ep4 := s4 _ _ ep3
        have pT4 := pT3.mono fun _ _ g => g.same s4
        have hu4 := hu.same s4
        generalize upd H3 t2 (.tup [V.str z, .int em.x.b, .int em.x.e, .ref u]) = H4 at s4 et4 el4 ep4 pT4 hu4 ⊢
        refine ⟨l, _, _, rfl, rfl, el4, by rw [List.length_map]; exact small1000 (by omega), ?_⟩
        refine ⟨_, _, _, ts ++ [t2], rfl, same_put ((s2.trans s3).trans s4) nl, ?_, by rw [upd_same, List.map_append]; rfl, by rw [List.length_append]; show ts.length + 1 ≤ i + 1; omega, ?_⟩
        · rw [upd_ne lp]
          exact ep4
        · rw [List.take_add_one, hz]
          refine (paired_snoc pT4 ?_).mono fun _ _ g => g.put el4
          exact ⟨p0.2, List.mem_map.mpr ⟨p0, hp0, rfl⟩, em, hem, hek, u, ps, et4, hu4, hpl⟩
      · obtain ⟨y2, y3, y4, ts, rfl, s2, ep2, el2, lts, pT⟩ := p
        rw [List.length_map, List.take_length] at pT
        exact ⟨y2, y3, y4, ys, ts, rfl, bn, s2, el2, pT⟩
    · obtain ⟨y2, y3, y4, ys, ts, rfl, bn, s2, el2, pT⟩ := hm
      exact ⟨_, rfl, q l ys ts H1 s2 nl bn el2 pT⟩
end
end My
namespace My
open PySem PySem.Spec PyProof.Rows L2 GX GxR
end My
namespace My
open PySem PySem.Spec PyProof.Rows L2 GX GxR
abbrev s_scLoadAt : Stmt := methS 24 6
abbrev n_scLoadAt : List Str := ["self", "time", "load", "key", "begin", "end", "amount"]
theorem scLoadAt : FnScope n_scLoadAt ["self", "time"] (defScope s_scLoadAt) := ⟨rfl, rfl, rfl, by decide +kernel, rfl, by decide +kernel, by decide +kernel⟩
section
variable {P : Program} {w : World} {K : PySem.W.Frag} {mg : Str → Option Value} {base : Heap} {C : Addr}
theorem ok_loadat {f fN fP : Addr} {fd fdN fdP : FuncData} {k : Nat} (F : Fun K "load_at" "Book.load_at" s_scLoadAt f fd) (X : Txt mg) (c : BCls K C)
    (GN : FnOk P w K mg base CX0 k fN fdN ["wares"] spNothing) (mN : mg "nothing_of" = some (.ref fN)) (kN : PySem.W.keepIn K (.ref fN) = true) (bN : L2.Binds K fdN ["wares"] [])
    (GP : FnOk P w K mg base CX0 k fP fdP ["one", "other"] (spZipS K (· + ·))) (mP : mg "amount_sum" = some (.ref fP)) (kP : PySem.W.keepIn K (.ref fP) = true) (bP : L2.Binds K fdP ["one", "other"] []) :
    FnOk P w K mg base CX0 (k + 1) f fd ["self", "time"] (spLoadAt K C) := by
  refine F.ok scLoadAt (fun vs H Q E h => ?_) (fun cdv A outer s H vs Q E hr h => ?_)
  · obtain ⟨a, dx, m, d, lv, ps, room, rs, t, rfl, _⟩ := h
    rfl
  · obtain ⟨a, dx, m, d, lv, ps, room, rs, t, rfl, B, q⟩ := h
    refine ⟨_, (pss_cons (ps_set (i := 2) scLoadAt.nd rfl (.inl rfl) (pe_call GN hr (by rfl) mN kN bN .nil pass0 (pa_cons (pe_callB call_len_seq (by rfl) X.len PySem.boot_len (pa_cons (pe_fld (pv 0) (by rfl)) pa_nil)) pa_nil)))
      (C8.pss_cut (ps_lock (ps_for PassesOwn.never rfl (pi_values (pe_fld (pv 0) (by rfl))) (pg_tup rfl (pgs_cons (pg_name (i := 3) scLoadAt.nd rfl (.inl rfl)) (pgs_cons (pg_name (i := 4) scLoadAt.nd rfl (.inl rfl)) (pgs_cons (pg_name (i := 5) scLoadAt.nd rfl (.inl rfl)) (pgs_cons (pg_name (i := 6) scLoadAt.nd rfl (.inl rfl)) pgs_nil)))))
        (pss_one (ps_if (pt_chain op_le op_lt (pv 4) (pv 1) (pv 5))
          (pss_one (ps_set (i := 2) scLoadAt.nd rfl (.inl rfl) (pe_call GP hr (by rfl) mP kP bP .nil pass0 (pa_cons (pv 2) (pa_cons (pv 6) pa_nil)))))
          pss_nil))))
      (pss_one (ps_ret (pv 2))))), ?_⟩
    have r1 := B.r1
    have r20 := B.r20
    have lp : ps.length = rs.length := B.prs.length
    refine ⟨_, rfl, a, C, dx, _, .ref m, rfl, B.obj, c.cls, c.room, rfl, m, _, rfl, .inr (SqT.of B.rm), room.length, by rw [List.length_map]; rfl, r1, by omega, fun z0 H1 s1 nz0 ez0 => ?_⟩
    have B1 := B.same s1
    have ad : a ≠ d := fun z => by
      have := B1.obj
      rw [z, B1.en] at this
      cases this
    refine ⟨fun σ H' => ∃ (l : Addr), σ[2]? = some (some (V.ref l)) ∧ Same H H' ∧ H l = none ∧ H' l = some (.tup ((netB room.length rs t).map V.int)), ?_, fun σ H2 hm => ?_⟩
    · refine ⟨d, _, B1.en, trivial, fun od => ?_⟩
      have kd : KTu H1 (upd H1 d (.frz od (.dK ps))) := kt_put B1.en (fun xs z => by cases z)
      have pr2 : Paired (EnAt (upd H1 d (.frz od (.dK ps)))) ps rs := B1.prs.mono fun _ _ x => x.kt kd
      have obj2 : upd H1 d (.frz od (.dK ps)) a = some (.ins C dx (flds m d lv)) := by
        rw [upd_ne ad]
        exact B1.obj
      have ed2 : upd H1 d (.frz od (.dK ps)) d = some (.frz od (.dK ps)) := upd_same
      have k2 : Kp [d] H1 (upd H1 d (.frz od (.dK ps))) := kp_lock
      have ez2 := kd _ _ ez0
      generalize upd H1 d (.frz od (.dK ps)) = H2 at pr2 obj2 ed2 k2 ez2 ⊢
      have free2 : ∀ x, H2 x = none → H x = none := fun x n => s1.free (kp_free k2 (fun z => by rw [z, ed2] at n; cases n) n)
      refine ⟨_, rfl, a, C, dx, _, .ref d, rfl, obj2, c.cls, c.entries, rfl, d, od, ps, rfl, ed2, ?_⟩
      refine for_it walk_values (fun i σ H' => ∃ (l : Addr) (y3 y4 y5 y6 : Option V), σ = [some (.ref a), some (.int t), some (.ref l), y3, y4, y5, y6] ∧ Same H2 H' ∧ H l = none ∧ H' l = some (.tup ((netB room.length (rs.take i) t).map V.int)))
        ⟨z0, none, none, none, none, rfl, Same.refl _, nz0, ?_⟩ (fun i σ H' _ p => ?_) (fun i x σ H3o H3 hi p y => ?_) (fun σ H3 p => ?_)
      · rw [List.take_zero, net_nil]
        exact ez2
      · obtain ⟨_, _, _, _, _, _, s3, _⟩ := p
        exact s3 _ _ ed2
      · obtain ⟨l, y3, y4, y5, y6, rfl, s3, nl, el⟩ := p
        obtain ⟨rfl, key, hk⟩ := y
        obtain ⟨R, hR, h1, r, h2, am, x1, x2⟩ := paired_get pr2 hk
        have h2' : x = .ref r := h2
        subst h2'
        have lam := B.ok.len R (List.mem_of_getElem? hR)
        have tk : rs.take (i + 1) = rs.take i ++ [R] := by
          rw [List.take_add_one, hR]
          rfl
        refine ⟨r, _, rfl, SqT.of (s3 _ _ x1), rfl, _, _, rfl, _, _, rfl, _, _, rfl, _, _, rfl, rfl, ?_⟩
        refine ⟨_, rfl, _, rfl, _, _, rfl, rfl, _, rfl, ite2 (fun e1 => ?_) (fun e1 => ?_)⟩
        · refine ⟨_, rfl, _, _, rfl, rfl, _, rfl, ite2 (fun e2 => ?_) (fun e2 => ?_)⟩
          · have lv : liveAt t R = true := decide_eq_true ⟨of_decide_eq_true e1, of_decide_eq_true e2⟩
            refine ⟨_, rfl, _, rfl, l, am, _, _, rfl, SqT.of el, SqT.of (s3 _ _ x2), by rw [netB_len]; omega, fun p3 H4 s4 n4 e4 => ?_⟩
            rw [net_add lv lam, ← tk] at e4
            exact ⟨p3, _, _, _, _, rfl, s3.trans s4, free2 _ (s3.free n4), e4⟩
          · refine ⟨l, _, _, _, _, rfl, s3, nl, ?_⟩
            rw [tk, net_skip (decide_eq_false fun z => e2 (decide_eq_true z.2))]
            exact el
        · refine ⟨false, rfl, iteF ⟨l, _, _, _, _, rfl, s3, nl, ?_⟩⟩
          rw [tk, net_skip (decide_eq_false fun z => e1 (decide_eq_true z.1))]
          exact el
      · obtain ⟨l, y3, y4, y5, y6, rfl, s3, nl, el⟩ := p
        refine ⟨s3 _ _ ed2, l, rfl, s1.trans (unlock_same B1.en (k2.trans (Same.kp _ s3))), nl, ?_⟩
        have ld : l ≠ d := fun z => by
          rw [z, s3 _ _ ed2] at el
          cases el
        rw [upd_ne ld, el, lp, List.take_length]
    · obtain ⟨l, e, s2, nl, el⟩ := hm
      exact ⟨_, e, q l H2 s2 nl el⟩
end
end My
set_option maxHeartbeats 1000000
/-! the next begin or end over all houses, and what all houses bear -/
namespace My
open PySem PySem.Spec PyProof.Rows L2 GX GxR
def fE (ss : List Bw) : List Int := ss.map (·.b) ++ ss.map (·.e)
def fN (ss : List Bw) : List Int := ss.map (·.e)
/-- the row of what a house bears -/
def HldAt (t : Int) (H : Hp) (a : Addr) (h : Hm) : Prop := ∃ p, H a = some (.tup [.str h.name, .ref p]) ∧ H p = some (.tup ((netB h.room.length h.bs t).map V.int))
theorem HldAt.kt {t : Int} {H H' : Hp} {a : Addr} {h : Hm} (k : KTu H H') (x : HldAt t H a h) : HldAt t H' a h := by
  obtain ⟨p, h1, h2⟩ := x
  exact ⟨p, k _ _ h1, k _ _ h2⟩
def spHLoads (CE CH CB : Addr) : Sp := fun vs H Q _ => ∃ (e edx hd pd : Addr) (L : List Hp2) (t : Int), vs = [.ref e, .int t] ∧ EhAt CE H e edx hd pd L ∧ (∀ p ∈ L, HsAt CH CB H p.1 p.2) ∧
  ∀ (l : Addr) (L' : List Hp2) (ts : List Addr) (H' : Hp), L'.Perm L → sortedS (names L') = true → Same H H' → H l = none → H' l = some (.lst (ts.map V.ref)) → Paired (HldAt t H') ts (L'.map (·.2)) → Q (.ref l) H'
end My
set_option maxHeartbeats 1000000
namespace My
open PySem PySem.Spec PyProof.Rows L2 GX GxR
abbrev s_scHLoads : Stmt := methS 28 13
abbrev n_scHLoads : List Str := ["self", "time", "name", "house"]
theorem scHLoads : FnScope n_scHLoads ["self", "time"] (defScope s_scHLoads) := ⟨rfl, rfl, rfl, by decide +kernel, rfl, by decide +kernel, by decide +kernel⟩
section
variable {P : Program} {w : World} {K : PySem.W.Frag} {mg : Str → Option Value} {base : Heap} {CE CH CB : Addr}
theorem ok_hloads {f fR fJ : Addr} {fd fdR fdJ : FuncData} {k : Nat} (F : Fun K "house_loads" "Estate.house_loads" s_scHLoads f fd) (c : ECls K CE) (cH : HCls K CH) (cBk : BCls K CB)
    (GR : FnOk P w K mg base CX0 k fR fdR ["self"] (spRise CE)) (MR : Meth K CE "rising_houses" fR) (bR : Binds K fdR ["self"] [])
    (GJ : FnOk P w K mg base CX0 k fJ fdJ ["self", "time"] (spLoadAt K CB)) (MJ : Meth K CB "load_at" fJ) (bJ : Binds K fdJ ["self", "time"] []) : FnOk P w K mg base CX0 (k + 1) f fd ["self", "time"] (spHLoads CE CH CB) := by
  have cE := c.cls
  have cB := cBk.cls
  refine F.ok scHLoads (fun vs H Q E h => ?_) (fun cdv A outer s H vs Q E hr h => ?_)
  · obtain ⟨e, edx, hd, pd, L, t, rfl, _⟩ := h
    rfl
  · obtain ⟨e, edx, hd, pd, L, t, rfl, B, each, q⟩ := h
    refine ⟨_, (pss_one (ps_ret (pe_lc (own := [("name", 2), ("house", 3)]) (g := (gTup K 2 (gCons (gName 2) (gCons (gName 3) gNil)))) (tt := tYes) (te := (tTup (tCons (tVar 2) (tCons (tMeth CB "load_at" (spLoadAt K CB) [] E0 (tFld K (tVar 3) "book") (tCons (tVar 1) tNil)) tNil)))) rfl scHLoads.nd (pi_list (pe_meth0 (pv 0) cE MR GR hr bR .nil pass0)) (blkOk_by (own := [("name", 2), ("house", 3)]) (N := n_scHLoads) (sc := defScope s_scHLoads) (by decide +kernel)) (fun _ _ _ _ _ => (pg_tup rfl (pgs_cons (pg_name (i := 2) scHLoads.nd rfl (.inl rfl)) (pgs_cons (pg_name (i := 3) scHLoads.nd rfl (.inl rfl)) pgs_nil)))) (fun _ _ _ _ _ => pts_nil) (fun _ _ _ _ _ => (pe_tup (pa_cons (pv 2) (pa_cons (pe_meth (pe_fld (pv 3) (by rfl)) cB MJ GJ hr bJ .nil pass0 (pa_cons (pv 1) pa_nil)) pa_nil))))))), ?_⟩
    have few := B.few
    refine ⟨_, rfl, e, edx, _, rfl, B.obj, rfl, e, edx, hd, pd, L, rfl, B, fun l L' ts H1 pL so s1 nl e1 r1 => ⟨l, rfl, ⟨_, SqL.of e1⟩, fun D nD => ?_⟩⟩
    have fD : H D = none := s1.free nD
    have lts := r1.length
    have lL := pL.length_eq
    refine lc_list (K := K) (xs := ts.map V.ref) (fun i H' => Same H1 H' ∧ ∃ us : List Addr, H' D = some (.lst (us.map V.ref)) ∧ Paired (HldAt t H') us ((L'.map (·.2)).take i)) ⟨same_upd nD, [], upd_same, by rw [List.take_zero]; exact .nil⟩ (fun i H' _ p => SqL.of (p.1 _ _ e1)) (fun i x H' hx p => ?_) (fun H2 pm2 => ?_)
    · obtain ⟨p1, us, p2, p3⟩ := p
      rw [List.getElem?_map] at hx
      cases ht : ts[i]? with
      | none => rw [ht] at hx; cases hx
      | some t1 =>
        rw [ht] at hx
        obtain rfl : V.ref t1 = x := Option.some.inj hx
        obtain ⟨pr, hp, ri⟩ := paired_get r1 ht
        have hm : pr ∈ L := pL.mem_iff.mp (List.mem_of_getElem? hp)
        have ha := (each pr hm).same (s1.trans p1)
        have ri' : RiAt H' t1 pr := ri.same p1
        have hi : i < L'.length := (List.getElem?_eq_some_iff.mp hp).1
        have l3 := p3.length
        rw [List.length_take, List.length_map] at l3
        refine ⟨t1, _, rfl, SqT.of ri', rfl, _, _, rfl, _, _, rfl, rfl, rfl, ?_⟩
        refine ⟨_, rfl, _, rfl, pr.1.a, CH, pr.1.dx, _, .ref pr.1.b, rfl, ha.obj, cH.cls, cH.book, rfl, pr.1.b, pr.1.bdx, _, rfl, ha.book.obj, rfl, _, rfl, pr.1.b, pr.1.bdx, pr.1.m, pr.1.d, pr.1.lv, pr.1.ps, pr.2.room, pr.2.bs, t, rfl, ha.book, fun p4 H4 s4 n4 e4 => ?_⟩
        refine ⟨by show 2 ≤ sizeLine; decide, fun t2 nt2 => ?_⟩
        have s5 := s4.trans (same_upd (o := .tup [.str pr.2.name, .ref p4]) nt2)
        have e2 := s5 _ _ p2
        have e5 := same_upd (o := .tup [.str pr.2.name, .ref p4]) nt2 _ _ e4
        refine ⟨_, e2, ?_, same_putA (p1.trans s5) nD, us ++ [t2], ?_, ?_⟩
        · rw [List.length_map]
          exact sml (by omega)
        · rw [upd_same, List.map_append]
          rfl
        · rw [List.take_add_one, List.getElem?_map, hp]
          have kt : ∀ {H5 : Hp} {ys : List V}, H5 D = some (.lst (us.map V.ref)) → KTu H5 (upd H5 D (.lst ys)) := fun e3 q vs hq => by rw [upd_ne (fun g => by rw [g, e3] at hq; cases hq)]; exact hq
          refine (paired_snoc (p3.mono fun _ _ h => h.kt (Same.kt s5)) ?_).mono fun _ _ h => h.kt (kt e2)
          exact ⟨p4, upd_same, e5⟩
    · obtain ⟨p1, us, p2, p3⟩ := pm2
      rw [List.length_map, lts, ← List.length_map (f := fun p : Hp2 => p.2), List.take_length] at p3
      exact q D L' us H2 pL so (s1.trans p1) fD p2 p3
end
end My
set_option maxHeartbeats 1000000
/-! isinstance of a kept exception, or of None -/
namespace XI
open PySem PySem.Spec PyProof.Rows L2 GX GxR My
/-! o.method(e) within a try suite -/
end XI
set_option maxHeartbeats 1000000
/-! what stands as a story of deeds goes on -/
namespace My
open PySem PySem.W PySem.Spec PyProof.Rows L2 GX GxR
def InvE (CE CH CB : Addr) (Ts : List Addr) (W : Nat) (H1 H : Hp) (e edx hd pd D : Addr) : Prop := ∃ pps L ML, S32 CE CH CB Ts H1 H e edx hd pd D pps L ML ∧ ML.map (·.2) = L.map (·.2) ∧ MGood hnE gnE W (L.map (·.2)) ∧ WGood (L.map (·.2))
section
variable {CE CH CB e edx hd pd D b : Addr} {H1 H H' : Hp} {pps : List (Key × V)} {L : List Hp2} {ML : List Md2} {Ts S : List Addr} {M' : List Hm} {c : Int} {W : Nat}
theorem InvE.same (s : Same H H') (x : InvE CE CH CB Ts W H1 H e edx hd pd D) : InvE CE CH CB Ts W H1 H' e edx hd pd D := by
  obtain ⟨pps, L, ML, h1, h2⟩ := x
  exact ⟨pps, L, ML, h1.same s, h2⟩
theorem InvE.box (tH : Tabs Ts H1) (x : InvE CE CH CB Ts W H1 H e edx hd pd D) (B : BoxAt H b c) (k : Kp [b] H H') (fb : H1 b = none) : InvE CE CH CB Ts W H1 H' e edx hd pd D := by
  obtain ⟨pps, L, ML, h1, h2⟩ := x
  exact ⟨pps, L, ML, h1.box tH B k fb, h2⟩
theorem InvE.fw (x : InvE CE CH CB Ts W H1 H e edx hd pd D) : Fw Ts H1 H := by
  obtain ⟨pps, L, ML, h1, _⟩ := x
  exact h1.fw
theorem EOutAt.due {t : Addr} {o : EOut} (x : S32 CE CH CB Ts H1 H e edx hd pd D pps L ML) (a : MAfter H D ML M' H') (h : EOutAt H t o) : EOutAt H' t o := by
  obtain ⟨L1, k, _⟩ := a
  have off : ∀ {q : Addr} {o : HO}, H q = some o → (∀ kv, o ≠ .dK kv) → H' q = some o := fun hq n => x.md.off (fun _ h => h) k hq n
  cases o with
  | told => exact off h fun _ z => by cases z
  | keys zs =>
    obtain ⟨l, h1, h2⟩ := h
    exact ⟨l, off h1 (fun _ z => by cases z), off h2 fun _ z => by cases z⟩
  | ref w => exact off h fun _ z => by cases z
  | over y => exact off h fun _ z => by cases z
theorem InvE.new {H2 : Hp} (f : Fw Ts H1 H) (o : H e = some (.ins CE edx (efl hd pd))) (hh : H hd = some (.dK [])) (hp : H pd = some (.dK [])) (hD : H D = some (.dK [])) (ne : hd ≠ pd) (n1 : hd ≠ D) (n2 : pd ≠ D) (f1 : H1 e = none) (f2 : H1 hd = none) (f3 : H1 pd = none) (f4 : H1 D = none) : InvE CE CH CB Ts W H1 H e edx hd pd D := by
  refine ⟨[], [], [], ⟨f, EsAt.nothing o hh hp ne, ⟨hD, (fun p hp => by cases hp), .nil, by simp, Nat.zero_le _⟩, fun x hx z => ?_, fun x hx => ?_, fun x hx => ?_⟩, rfl, ⟨(EsAt.nothing (CH := CH) (CB := CB) o hh hp ne).good, (fun h hh => by cases hh), (fun h hh => by cases hh), fun h hh => by cases hh⟩, fun h hh => by cases hh⟩
  · rcases mfoot_mem.mp z with rfl | ⟨p, hp, _⟩
    · rcases foot_mem.mp hx with rfl | rfl | rfl | ⟨p, hp, _⟩
      · rw [o] at hD; cases hD
      · exact n1 rfl
      · exact n2 rfl
      · cases hp
    · cases hp
  · rcases foot_mem.mp hx with rfl | rfl | rfl | ⟨p, hp, _⟩
    · exact f1
    · exact f2
    · exact f3
    · cases hp
  · rcases mfoot_mem.mp hx with rfl | ⟨p, hp, _⟩
    · exact f4
    · cases hp
theorem paired_with {α β : Type} {R : α → β → Prop} {Q : β → Prop} : ∀ {xs : List α} {ys : List β}, Paired R xs ys → (∀ y ∈ ys, Q y) → Paired (fun a b => R a b ∧ Q b) xs ys
  | _, _, .nil, _ => .nil
  | _, _, .cons r t, h => .cons ⟨r, h _ List.mem_cons_self⟩ (paired_with t fun y hy => h y (List.mem_cons_of_mem _ hy))
end
end My
set_option maxHeartbeats 1000000
/-! edges and loads as data -/
namespace My
open PySem PySem.Spec PyProof.Rows L2 GX GxR
def ldD (t : Int) (h : Hm) : PyData := .tuple [.str h.name, .tuple ((netB h.room.length h.bs t).map PyData.int)]
theorem lds_dp {K : PySem.W.Frag} {t : Int} {H : Hp} : ∀ {as : List Addr} {hs : List Hm}, Paired (HldAt t H) as hs → DpAll K H (as.map V.ref) (hs.map (ldD t))
  | _, _, .nil => .nil
  | _, _, .cons h r => by
    obtain ⟨p, h1, h2⟩ := h
    exact .cons (.tup (SqT.of h1) (.cons (.str _) (.cons (.tup (SqT.of h2) (dp_ints2 _)) .nil))) (lds_dp r)
theorem lds_sh {t : Int} {hs : List Hm} (ok : ∀ h ∈ hs, PySem.PyData.strOk h.name = true) : SeqAt.shaped (.list (hs.map (ldD t))) = true := by
  refine sh_of (n := 3) (lay_lst fun d hd => ?_) (dep_lst fun d hd => ?_) (by decide)
  · obtain ⟨h, hh, rfl⟩ := List.mem_map.mp hd
    refine lay_tup fun d hd => ?_
    rcases List.mem_cons.mp hd with rfl | hd
    · exact lay_str (ok h hh)
    rw [List.mem_singleton.mp hd]
    exact room_lay _
  · obtain ⟨h, hh, rfl⟩ := List.mem_map.mp hd
    refine dep_tup fun d hd => ?_
    rcases List.mem_cons.mp hd with rfl | hd
    · exact Nat.le_trans (Nat.le_of_eq (dep0_str _)) (by decide)
    rw [List.mem_singleton.mp hd]
    exact room_dep _
end My
set_option maxHeartbeats 1000000
/-! the rows of the booked gangs as data -/
namespace My
open PySem PySem.Spec PyProof.Rows L2 GX GxR
def BrD (M : List Hm) (d : PyData) (z : Str) : Prop := ∃ h ∈ M, ∃ em ∈ h.es, em.x.key = z ∧ ∃ ps, d = .tuple [.str z, .int em.x.b, .int em.x.e, .tuple (ps.map prD)] ∧ PlOf M z ps
theorem PlOf.uniq {M : List Hm} {z : Str} {ps ps' : List (Str × Int)} (a : PlOf M z ps) (b : PlOf M z ps') : ps = ps' := by
  have nd : ∀ {qs : List (Str × Int)}, (qs.map (·.1)).Nodup → qs.Nodup := fun h => nodup_map_of h
  refine one_by (f := fun q : Str × Int => q.1) ((List.perm_ext_iff_of_nodup (nd a.nd) (nd b.nd)).mpr fun q => ?_) b.nd a.so b.so
  exact (a.is q.1 q.2).trans (b.is q.1 q.2).symm
theorem BrD.uniq {M : List Hm} {d d' : PyData} {z : Str} (E : EGood M) (a : BrD M d z) (b : BrD M d' z) : d = d' := by
  obtain ⟨h, h1, em, h2, h3, ps, rfl, h4⟩ := a
  obtain ⟨h', g1, em', g2, g3, ps', rfl, g4⟩ := b
  obtain ⟨e1, e2⟩ := E.same h h1 h' g1 em h2 em' g2 (h3.trans g3.symm)
  rw [e1, e2, h4.uniq g4]
theorem rows_data {K : PySem.W.Frag} {M : List Hm} {H : Hp} : ∀ {ts : List Addr} {zs : List Str}, Paired (BrAt M H) ts zs → ∃ ds, DpAll K H (ts.map V.ref) ds ∧ Paired (BrD M) ds zs
  | _, _, .nil => ⟨[], .nil, .nil⟩
  | _, _, .cons h t => by
    obtain ⟨ds, d1, d2⟩ := rows_data t
    obtain ⟨hm, h1, em, h2, h3, u, ps, h4, ⟨vs, h5, h6⟩, h7⟩ := h
    exact ⟨_, .cons (.tup (SqT.of h4) (.cons (.str _) (.cons (.int _) (.cons (.int _) (.cons (.tup (.inl h5) h6.dp) .nil))))) d1, .cons ⟨hm, h1, em, h2, h3, ps, rfl, h7⟩ d2⟩
theorem rows_uniq {M : List Hm} (E : EGood M) : ∀ {ds ds' : List PyData} {zs : List Str}, Paired (BrD M) ds zs → Paired (BrD M) ds' zs → ds = ds'
  | _, _, _, .nil, .nil => rfl
  | _, _, _, .cons h t, .cons h' t' => by rw [h.uniq E h', rows_uniq E t t']
theorem BNms.uniq {M : List Hm} {zs ys : List Str} (a : BNms M zs) (b : BNms M ys) : zs = ys := by
  refine one_by (f := fun z : Str => z) ((List.perm_ext_iff_of_nodup a.nd b.nd).mpr fun z => (a.is z).trans (b.is z).symm) ?_ ?_ ?_
  · rw [List.map_id']; exact b.nd
  · rw [List.map_id']; exact a.so
  · rw [List.map_id']; exact b.so
section
variable {hn gn : List Str} {w : Nat} {M : List Hm}
/-- what a booked gang's row bears -/
theorem MGood.row (N : Nms hn gn w) (G : MGood hn gn w M) {h : Hm} (hh : h ∈ M) {em : Em} (he : em ∈ h.es) : em.x.key ∈ gn ∧ 0 ≤ em.x.b ∧ em.x.b < em.x.e ∧ em.x.e ≤ 2000000000 := by
  have hb : em.x ∈ h.bs := List.mem_map.mpr ⟨em, he, rfl⟩
  have B := G.each h hh
  exact ⟨B.key _ hb, (B.tm _ hb).1, B.lt _ hb, (B.tm _ hb).2⟩
theorem PlOf.names (G : MGood hn gn w M) {z : Str} {ps : List (Str × Int)} (p : PlOf M z ps) : ∀ q ∈ ps, q.1 ∈ hn := fun q hq => by
  obtain ⟨hm, h1, h2, _⟩ := (p.is q.1 q.2).mp hq
  rw [← h2]
  exact G.nm hm h1
theorem rows_shaped (N : Nms hn gn w) (G : MGood hn gn w M) {ds : List PyData} {zs : List Str} (p : Paired (BrD M) ds zs) : SeqAt.shaped (.list ds) = true := by
  have each : ∀ d ∈ ds, ∃ z, BrD M d z := fun d hd => by
    obtain ⟨i, hi⟩ := List.mem_iff_getElem?.mp hd
    obtain ⟨z, _, hz⟩ := paired_get p hi
    exact ⟨z, hz⟩
  refine sh_of (n := 4) (lay_lst fun d hd => ?_) (dep_lst fun d hd => ?_) (by decide)
  · obtain ⟨z, h, h1, em, h2, rfl, ps, rfl, h4⟩ := each d hd
    refine lay_tup fun d hd => ?_
    rcases List.mem_cons.mp hd with rfl | hd
    · exact lay_str (N.go _ (G.row N h1 h2).1).1
    rcases List.mem_cons.mp hd with rfl | hd
    · rfl
    rcases List.mem_cons.mp hd with rfl | hd
    · rfl
    rw [List.mem_singleton.mp hd]
    exact prs_lay fun q hq => (N.ho _ (h4.names G q hq)).1
  · obtain ⟨z, h, h1, em, h2, rfl, ps, rfl, h4⟩ := each d hd
    refine dep_tup fun d hd => ?_
    rcases List.mem_cons.mp hd with rfl | hd
    · exact Nat.le_trans (Nat.le_of_eq (dep0_str _)) (by decide)
    rcases List.mem_cons.mp hd with rfl | hd
    · exact Nat.le_trans (Nat.le_of_eq (dep0_int _)) (by decide)
    rcases List.mem_cons.mp hd with rfl | hd
    · exact Nat.le_trans (Nat.le_of_eq (dep0_int _)) (by decide)
    rw [List.mem_singleton.mp hd]
    exact Nat.succ_le_succ (prs_deep ps)
end
end My
set_option maxHeartbeats 1000000
/-! what is kept of lists and tuples alone -/
namespace My
open PySem PySem.Spec PyProof.Rows L2 GX GxR
def seqO (o : HO) : Prop := ∃ vs, o = .lst vs ∨ o = .tup vs ∨ ∃ o', o = .frz o' (.lst vs) ∨ o = .frz o' (.tup vs)
/-- the lists and the tuples stay -/
def KL (H H' : Hp) : Prop := ∀ a o, seqO o → H a = some o → H' a = some o
theorem KL.refl (H : Hp) : KL H H := fun _ _ _ h => h
theorem KL.trans {H H1 H2 : Hp} (a : KL H H1) (b : KL H1 H2) : KL H H2 := fun x o s h => b x o s (a x o s h)
theorem KL.same {H H' : Hp} (s : Same H H') : KL H H' := fun x o _ h => s x o h
theorem KL.kp {H0 H H' : Hp} {X : List Addr} (a : KL H0 H) (k : Kp X H H') (h : ∀ x ∈ X, ∀ o, H0 x = some o → ¬ seqO o) : KL H0 H' := fun x o s e => k x o (fun hx => h x hx o e s) (a x o s e)
theorem KL.sqL {K : PySem.W.Frag} {H H' : Hp} (k : KL H H') {a : Addr} {xs : List V} (h : SqL K H a xs) : SqL K H' a xs := by
  rcases h with (h | ⟨o, h⟩) | h
  · exact .inl (.inl (k _ _ ⟨_, .inl rfl⟩ h))
  · exact .inl (.inr ⟨o, k _ _ ⟨_, .inr (.inr ⟨o, .inl rfl⟩)⟩ h⟩)
  · exact .inr h
theorem KL.sqT {K : PySem.W.Frag} {H H' : Hp} (k : KL H H') {a : Addr} {xs : List V} (h : SqT K H a xs) : SqT K H' a xs := by
  rcases h with (h | ⟨o, h⟩) | h
  · exact .inl (.inl (k _ _ ⟨_, .inr (.inl rfl)⟩ h))
  · exact .inl (.inr ⟨o, k _ _ ⟨_, .inr (.inr ⟨o, .inr rfl⟩)⟩ h⟩)
  · exact .inr h
mutual
theorem KL.dp {K : PySem.W.Frag} {H H' : Hp} (k : KL H H') : ∀ (d : PyData) (v : V), Dp K H v d → Dp K H' v d
  | .none, _, h => by cases h; exact .non
  | .bool b, _, h => by cases h; exact .bl _
  | .int i, _, h => by cases h; exact .int _
  | .str x, _, h => by cases h; exact .str _
  | .list ds, _, h => by
    cases h with
    | lst s a => exact .lst (k.sqL s) (KL.dpAll k ds _ a)
  | .tuple ds, _, h => by
    cases h with
    | tup s a => exact .tup (k.sqT s) (KL.dpAll k ds _ a)
  | .dict _, _, h => by cases h
theorem KL.dpAll {K : PySem.W.Frag} {H H' : Hp} (k : KL H H') : ∀ (ds : List PyData) (vs : List V), DpAll K H vs ds → DpAll K H' vs ds
  | [], _, h => by cases h; exact .nil
  | d :: ds, _, h => by
    cases h with
    | cons a b => exact .cons (KL.dp k d _ a) (KL.dpAll k ds _ b)
end
end My
set_option maxHeartbeats 4000000
namespace My
open PySem PySem.Spec PyProof.Rows L2 GX GxR
abbrev s_scSee : Stmt := topS 48
abbrev n_scSee : List Str := ["_law_estate"]
theorem scSee : FnScope n_scSee ["_law_estate"] (defScope s_scSee) := ⟨rfl, rfl, rfl, by decide +kernel, rfl, by decide +kernel, by decide +kernel⟩
/-- what is seen of an estate, as data -/
def SeenD (M : List Hm) (d : PyData) : Prop := ∃ (hs h2 : List Hm) (zs : List Str) (ds : List PyData), hs.Perm M ∧ sortedS (hs.map (·.name)) = true ∧ h2.Perm M ∧ sortedS (h2.map (·.name)) = true ∧ BNms M zs ∧ Paired (BrD M) ds zs ∧ d = .list [.list (hs.map hrowD), .list ds, .list (h2.map (ldD 5))]
theorem SeenD.uniq {M : List Hm} {d d' : PyData} (E : EGood M) (a : SeenD M d) (b : SeenD M d') : d = d' := by
  obtain ⟨hs, h2, zs, ds, p1, s1, p2, s2, n1, r1, rfl⟩ := a
  obtain ⟨hs', h2', zs', ds', q1, t1, q2, t2, m1, u1, rfl⟩ := b
  have nd : ∀ {xs : List Hm}, xs.Perm M → (xs.map (·.name)).Nodup := fun p => (p.map _).nodup_iff.mpr E.nd
  obtain rfl : hs = hs' := one_by (f := fun h : Hm => h.name) (p1.trans q1.symm) (nd q1) s1 t1
  obtain rfl : h2 = h2' := one_by (f := fun h : Hm => h.name) (p2.trans q2.symm) (nd q2) s2 t2
  obtain rfl := n1.uniq m1
  obtain rfl := rows_uniq E r1 u1
  rfl
theorem dep_hrow (h : Hm) : PyData.depth (hrowD h) ≤ 2 := by
  refine dep_tup fun d hd => ?_
  have flat : ∀ {d : PyData}, PyData.depth d = 0 → PyData.depth d ≤ 1 := fun h => by omega
  rcases List.mem_cons.mp hd with rfl | hd
  · exact flat (dep0_str _)
  rcases List.mem_cons.mp hd with rfl | hd
  · exact flat (dep0_str _)
  rcases List.mem_cons.mp hd with rfl | hd
  · refine dep_tup fun d hd => ?_
    obtain ⟨n, _, rfl⟩ := List.mem_map.mp hd
    exact Nat.le_of_eq (dep0_int n)
  rcases List.mem_cons.mp hd with rfl | hd
  · cases hk : h.kind with
    | none => exact flat dep0_non
    | some z => exact flat (dep0_str z)
  · rw [List.mem_singleton.mp hd]
    exact flat (dep0_str _)
theorem dep_brd {M : List Hm} {d : PyData} {z : Str} (h : BrD M d z) : PyData.depth d ≤ 3 := by
  obtain ⟨h, h1, em, h2, rfl, ps, rfl, h4⟩ := h
  refine dep_tup fun d hd => ?_
  rcases List.mem_cons.mp hd with rfl | hd
  · exact Nat.le_trans (Nat.le_of_eq (dep0_str _)) (by decide)
  rcases List.mem_cons.mp hd with rfl | hd
  · exact Nat.le_trans (Nat.le_of_eq (dep0_int _)) (by decide)
  rcases List.mem_cons.mp hd with rfl | hd
  · exact Nat.le_trans (Nat.le_of_eq (dep0_int _)) (by decide)
  rw [List.mem_singleton.mp hd]
  exact Nat.succ_le_succ (prs_deep ps)
theorem dep_ld (t : Int) (h : Hm) : PyData.depth (ldD t h) ≤ 2 := by
  refine dep_tup fun d hd => ?_
  rcases List.mem_cons.mp hd with rfl | hd
  · exact Nat.le_trans (Nat.le_of_eq (dep0_str _)) (by decide)
  rw [List.mem_singleton.mp hd]
  exact room_dep _
theorem SeenD.sh {hn gn : List Str} {w : Nat} {M : List Hm} {d : PyData} (N : Nms hn gn w) (G : MGood hn gn w M) (ok : ∀ h ∈ M, PySem.PyData.strOk h.name = true ∧ PySem.PyData.strOk h.yard = true ∧ PySem.PyData.strOk h.state = true ∧ ∀ z, h.kind = some z → PySem.PyData.strOk z = true) (a : SeenD M d) : SeqAt.shaped d = true := by
  obtain ⟨hs, h2, zs, ds, p1, s1, p2, s2, n1, r1, rfl⟩ := a
  refine sh_of (n := 5) (lay_lst fun d hd => ?_) (dep_lst fun d hd => ?_) (by decide)
  · rcases List.mem_cons.mp hd with rfl | hd
    · exact SeqAt.canLay_of_shaped (sh_hrows fun h hh => ok h (p1.mem_iff.mp hh))
    rcases List.mem_cons.mp hd with rfl | hd
    · exact SeqAt.canLay_of_shaped (rows_shaped N G r1)
    rw [List.mem_singleton.mp hd]
    exact SeqAt.canLay_of_shaped (lds_sh fun h hh => (ok h (p2.mem_iff.mp hh)).1)
  · rcases List.mem_cons.mp hd with rfl | hd
    · refine dep_lst fun d hd => ?_
      obtain ⟨h, _, rfl⟩ := List.mem_map.mp hd
      exact Nat.le_trans (dep_hrow h) (by decide)
    rcases List.mem_cons.mp hd with rfl | hd
    · refine dep_lst fun d hd => ?_
      obtain ⟨i, hi⟩ := List.mem_iff_getElem?.mp hd
      obtain ⟨z, _, hz⟩ := paired_get r1 hi
      exact dep_brd hz
    rw [List.mem_singleton.mp hd]
    refine dep_lst fun d hd => ?_
    obtain ⟨h, _, rfl⟩ := List.mem_map.mp hd
    exact Nat.le_trans (dep_ld 5 h) (by decide)
theorem hr_hrow (h : Hm) : hrD h = hrowD h := by
  unfold hrD hrowD
  cases h.kind <;> rfl
def spWSee (K : PySem.W.Frag) (CE CH CB : Addr) : Sp := fun vs H Q _ => ∃ (e edx hd pd : Addr) (pps : List (Key × V)) (L : List Hp2), vs = [.ref e] ∧ EsAt CE CH CB H e edx hd pd pps L ∧
  ∀ (t : Addr) (d : PyData) (H' : Hp), Same H H' → SeenD (L.map (·.2)) d → Dp K H' (.ref t) d → Q (.ref t) H'
section
variable {P : Program} {w : World} {K : PySem.W.Frag} {mg : Str → Option Value} {base : Heap} {CE CH CB : Addr}
theorem ok_wsee {f fHR fBR fHL : Addr} {fd fdHR fdBR fdHL : FuncData} {k : Nat} (F : Fun K "_law_seen" "_law_seen" s_scSee f fd) (c : ECls K CE)
    (GHR : FnOk P w K mg base CX0 k fHR fdHR ["self"] (spHRows CE CH CB)) (MHR : Meth K CE "house_rows" fHR) (bHR : Binds K fdHR ["self"] [])
    (GBR : FnOk P w K mg base CX0 k fBR fdBR ["self"] (spBRowsF CE CH CB)) (MBR : Meth K CE "booked_rows" fBR) (bBR : Binds K fdBR ["self"] [])
    (GHL : FnOk P w K mg base CX0 k fHL fdHL ["self", "time"] (spHLoads CE CH CB)) (MHL : Meth K CE "house_loads" fHL) (bHL : Binds K fdHL ["self", "time"] []) :
    FnOk P w K mg base CX0 (k + 1) f fd ["_law_estate"] (spWSee K CE CH CB) := by
  have cE := c.cls
  refine F.ok scSee (fun vs H Q E h => ?_) (fun cdv A outer s H vs Q E hr h => ?_)
  · obtain ⟨e, edx, hd, pd, pps, L, rfl, _⟩ := h
    rfl
  · obtain ⟨e, edx, hd, pd, pps, L, rfl, B, q⟩ := h
    refine ⟨_, (pss_one (ps_ret (pe_lst (pa_cons (pe_meth0 (pv 0) cE MHR GHR hr bHR .nil pass0) (pa_cons (pe_meth0 (pv 0) cE MBR GBR hr bBR .nil pass0) (pa_cons (pe_meth (pv 0) cE MHL GHL hr bHL .nil pass0 (pa_cons pe_int pa_nil)) pa_nil)))))), ?_⟩
    refine ⟨_, rfl, e, edx, _, rfl, B.obj, rfl, ?_⟩
    refine ⟨e, edx, hd, pd, L, rfl, B.eh, B.each, fun l1 L1 t1 H1 pm1 so1 s1 n1 e1 pr1 => ?_⟩
    have B1 := B.same s1
    refine ⟨_, rfl, e, edx, _, rfl, B1.obj, rfl, ?_⟩
    refine ⟨e, edx, hd, pd, pps, L, rfl, B1, fun l2 zs t2 H2 s2 n2 bn e2 pr2 => ?_⟩
    have B2 := B1.same s2
    refine ⟨_, rfl, e, edx, _, rfl, B2.obj, rfl, ?_⟩
    refine ⟨e, edx, hd, pd, L, 5, rfl, B2.eh, B2.each, fun l3 L3 t3 H3 pm3 so3 s3 n3 e3 pr3 => ?_⟩
    have B3 := B2.same s3
    refine ⟨by show 3 ≤ sizeLine; decide, fun l4 n4 => ?_⟩
    have s4 := same_upd (o := .lst [V.ref l1, .ref l2, .ref l3]) n4
    have e4 : upd H3 l4 (.lst [V.ref l1, .ref l2, .ref l3]) l4 = some (.lst [V.ref l1, .ref l2, .ref l3]) := upd_same
    generalize upd H3 l4 (.lst [V.ref l1, .ref l2, .ref l3]) = H4 at s4 e4 ⊢
    have B4 := B3.same s4
    have s14 := (s2.trans s3).trans s4
    have d1 : DpAll K H4 (t1.map V.ref) ((L1.map (·.2)).map hrD) := by
      rw [List.map_map]
      exact rows_dp (R := fun t p => HrAt H4 t p ∧ H4 p.1.m = some (.tup (p.2.room.map V.int))) (f := fun p : Hp2 => hrD p.2) (fun t p g => hr_dp g.1 g.2) (paired_with (pr1.mono fun t p (g : HrAt H1 t p) => (s14 _ _ g : HrAt H4 t p)) fun p hp => (B4.each p (pm1.mem_iff.mp hp)).book.rm)
    have em : (L1.map (·.2)).map hrD = (L1.map (·.2)).map hrowD := List.map_congr_left fun h _ => hr_hrow h
    rw [em] at d1
    obtain ⟨ds, d2, d3⟩ := rows_data (K := K) (pr2.mono fun _ _ g => (g.at.same (s3.trans s4)))
    have d4 : DpAll K H4 (t3.map V.ref) ((L3.map (·.2)).map (ldD 5)) := lds_dp (pr3.mono fun _ _ g => g.kt (Same.kt s4))
    refine q l4 _ H4 (((s1.trans s2).trans s3).trans s4) ⟨L1.map (·.2), L3.map (·.2), zs, ds, pm1.map _, by rw [List.map_map]; exact so1, pm3.map _, by rw [List.map_map]; exact so3, bn, d3, rfl⟩ ?_
    exact .lst (SqL.of e4) (.cons (.lst (SqL.of (s14 _ _ e1)) d1) (.cons (.lst (SqL.of ((s3.trans s4) _ _ e2)) d2) (.cons (.lst (SqL.of (s4 _ _ e3)) d4) .nil)))
end
end My
set_option maxHeartbeats 2000000
/-! any(.. for .. in ..), the element may call defs: it stops at the first True -/
namespace GW
open PySem PySem.Spec PyProof.Rows L2 GxR GenW
/-- while the generator sleeps nothing is altered -/
structure Slept0 (s s' : Shared) : Prop where
  os : s'.os = s.os
  bare : AllBare s'.gens
  keep : ∀ b o, s.heap.get? b = some o → s'.heap.get? b = some o
theorem Inv.woken0 {X : Cx} {ip : List (Addr × Obj)} {σ : L2.St} {H : Hp} {s s' : Shared} (I0 : Inv X ip σ H s) (z : Slept0 s s') : Inv X ip σ H s' := by
  obtain ⟨z1, z2, z3⟩ := z
  obtain ⟨hh, g, d, t, o⟩ := s'
  have ho : o = s.os := z1
  subst ho
  refine I0.step (g' := g) (t' := t) (d' := d) (ch := []) (fun b hb => by cases hb)
      (fun b ob _ _ _ q _ => z3 b ob q) (fun b ob _ _ _ q _ => ⟨ob.slots, z3 b ob q⟩) (fun _ _ _ _ n => n) (fun b ob _ q => ⟨ob, z3 b ob q⟩)
      (fun _ _ q => q) (fun _ _ _ q => q) (fun b ps q => ⟨#[], by rw [q]; simp⟩) (fun m hm => ?_) (fun b u q => ?_) z2
  · obtain ⟨ob, es, ep, ho, r⟩ := hm
    exact ⟨ob, es, ep, z3 _ ob ho, r⟩
  · exact (I0.hok b u q).stay (fun c v hc y => z3 c v y) (fun _ y => y) fun _ _ y => y
def MidA (P : Program) (w : World) (outer : List Env) (H : Hp) (s : Shared) (ex : List Addr) (Qx : Hp → Prop) (s1 : Shared) : Prop :=
  ∃ H', s1.os = s.os ∧ AllBare s1.gens ∧ Un (frs outer) ex H H' s.heap s1.heap ∧ HOk P w H' s1.heap ∧ Qx H'
theorem MidA.kept {P : Program} {w : World} {outer : List Env} {H : Hp} {s : Shared} {ex : List Addr} {Qx : Hp → Prop} {s1 s2 : Shared} (h : MidA P w outer H s ex Qx s1) (ho : s2.os = s1.os) (hb : AllBare s2.gens) (hk : ∀ b o, s1.heap.get? b = some o → s2.heap.get? b = some o) : MidA P w outer H s ex Qx s2 := by
  obtain ⟨H', h1, h2, h3, h4, h5⟩ := h
  exact ⟨H', ho.trans h1, hb, h3.trans (Un.kept hk), h4.kept hk, h5⟩
/-- an item -/
def YA (Tr : Shared → Prop) (a : Addr) (g : Nat) (os : OsState) : Protocol := fun n s₀ v s1 kap =>
  s1.os = os ∧ AllBare s1.gens ∧ s1.heap.NoLimit ∧ s1.heap.IsGen a g ∧ ∃ b, v = .bool b ∧ (b = true → Tr s1) ∧ (b = false → ∀ s', Slept0 s1 s' → kap (.send .none) s')
def RA (Fd : Shared → Prop) : GenEnd := fun n s₀ r s1 => ((r = .ok (.ret .none) ∨ r = .ok .next) ∧ Fd s1) ∨ ∃ e, r = .error e ∧ False
theorem any_loop {P : Program} {w : World} {outer : List Env} {H : Hp} {sc : Shared} {ex : List Addr} {Qt Qf : Hp → Prop} {A : Around} {R : Result → Shared → Prop} {a : Addr} {g : Nat}
    (hh : A.handled = none) (hd : A.depth < recursionLimit)
    (ht : ∀ s', MidA P w outer H sc ex Qt s' → R (.ok (.ret (.bool true))) s') (hf : ∀ s', MidA P w outer H sc ex Qf s' → R (.ok (.ret (.bool false))) s') :
    ∀ (m : Nat) (s : Shared), s.heap.IsGen a g → s.heap.NoLimit →
      (∃ gs, s.gens[g]? = some gs ∧ gs.Goes (model P w) A.in1.in1 (RA (MidA P w outer H sc ex Qf)) (YA (MidA P w outer H sc ex Qt) a g sc.os) m (.send .none) (s.setGen g .running)) →
      codeAny (model P w) A (.builtin "any.loop" ⟨[.ref a], []⟩) R s := by
  intro m
  induction m with
  | zero =>
    intro s hg hl ⟨gs, hgs, hgo⟩
    refine codeAny_builtin F.entry_any_loop ?_
    rw [Around.under_plainId F.plain_any_loop _]
    show wpAny _ A.in1 (pyNext (.ref a) >>= _) _ _ s
    refine wpAny_bind (next_genG (A := A.in1) (F := fun _ _ s1 => MidA P w outer H sc ex Qf s1) (Er := fun _ _ => False) hh hl hd hg hgs hgo (fun v s₁ gs' hbare hv => ?_) (fun s₁ hp h' hk => ?_) fun e s₁ he => he.elim)
    · obtain ⟨os1, hb1, hl1, hg1, b, rfl, h1, h2⟩ := hv
      cases b with
      | false => exact False.elim (h2 rfl s₁ ⟨rfl, hb1, fun _ _ e => e⟩)
      | true =>
        refine wpAny_bind (wpAny_holding (wpAny_truthy_bool ?_))
        refine wpAny_bind (wpAny_letGo ?_)
        refine wpAny_bind (wpAny_rule (wpAny_pure (ht _ ((h1 rfl).kept rfl (allBare_setGen hb1 hbare) fun _ _ e => e))))
    · exact wpAny_bind (wpAny_rule (wpAny_pure (hf _ (hp.kept rfl (allBare_setGen (by obtain ⟨_, _, q, _⟩ := hp; exact q) rfl) hk))))
  | succ m ih =>
    intro s hg hl ⟨gs, hgs, hgo⟩
    have hgl : g < s.gens.size := (Array.getElem?_eq_some_iff.mp hgs).1
    refine codeAny_builtin F.entry_any_loop ?_
    rw [Around.under_plainId F.plain_any_loop _]
    show wpAny _ A.in1 (pyNext (.ref a) >>= _) _ _ s
    refine wpAny_bind (wpAny_gsz (n := g + 1) hgl (next_genG (A := A.in1) (F := fun _ _ s1 => MidA P w outer H sc ex Qf s1) (Er := fun _ _ => False) hh hl hd hg hgs hgo (fun v s₁ gs' hbare hv => ?_) (fun s₁ hp h' hk => ?_) fun e s₁ he => he.elim))
    · intro hsz
      obtain ⟨os1, hb1, hl1, hg1, b, rfl, h1, h2⟩ := hv
      have hsz1 : g < s₁.gens.size := by
        have q : (s₁.setGen g gs').gens.size = s₁.gens.size := setGen_size _ _ _
        have hsz' : g + 1 ≤ (s₁.setGen g gs').gens.size := hsz
        omega
      refine wpAny_bind (wpAny_holding (wpAny_truthy_bool ?_))
      refine wpAny_bind (wpAny_letGo ?_)
      cases b with
      | true => exact wpAny_bind (wpAny_rule (wpAny_pure (ht _ ((h1 rfl).kept rfl (allBare_setGen hb1 hbare) fun _ _ e => e))))
      | false =>
        refine wpAny_pure ⟨plainId_quiet F.plain_any_loop _, ?_⟩
        exact ih (s₁.setGen g gs') hg1 hl1 ⟨gs', setGen_at hsz1, h2 rfl _ ⟨rfl, allBare_setGen (s := s₁.setGen g gs') (allBare_setGen hb1 hbare) rfl, fun _ _ e => e⟩⟩
    · intro hsz
      exact wpAny_bind (wpAny_rule (wpAny_pure (hf _ (hp.kept rfl (allBare_setGen (by obtain ⟨_, _, q, _⟩ := hp; exact q) rfl) hk))))
/-- a turn of the walk -/
def TurnsA (J : It) (g : TG) (te : TE) (vs : List Nat) (σ' : L2.St) (Qt Qf : Hp → Prop) (W : Nat → Nat → Hp → Prop) : Prop :=
  ∀ i m H, W i m H → (J.stop i H ∧ Qf H) ∨ (J.go i H ∧ ∀ x H', J.yld i H x H' → g x σ' H' fun σb H2 => wipe σb vs = σ' ∧ te σb H2 fun y H3 => (y = .bl true ∧ Qt H3) ∨ (y = .bl false ∧ ∃ m', m' < m ∧ W (i + 1) m' H3))
/-- the walk's end -/
def GExA (X : Cx) (Qf : Hp → Prop) : GenEnd := fun n s₀ r s => r = .ok .next ∧ ∃ ip σ H, Inv X ip σ H s ∧ Qf H
def GYA (X : Cx) (Qt : Hp → Prop) : Protocol := fun n s₀ v s kap =>
  ∃ b ip σ H, v = .bool b ∧ Inv X ip σ H s ∧ (b = true → Qt H) ∧ (b = false → ∀ s', Slept0 s s' → kap (.send .none) s')
section
variable {X Y : Cx} {N : List Str} {scope : Scope} {it : Addr} {A : Around} {fp : List Addr} {tg iter elt : Expr} {gpos : Pos} {J : It} {tn : Nat → Heap → Prop} {g : TG} {te : TE} {vs : List Nat} {σ' : L2.St} {Qt Qf : Hp → Prop} {W : Nat → Nat → Hp → Prop}
theorem seg_turnsA (hd : Y.A.handled = none) (hA : A.deeper Y.env = Y.A) (hcalm : Y.calm = true) (hxe : ∀ e s, ¬ Y.xe e s) (hsc : Y.env.scope = scope) (hco : scope.isCoroutine = false) (T : Turn Y.prog Y.w Y.K tg J fp it tn) (hg : PG Y tg g) (he : PE Y elt te)
    (hex : ∀ b ∈ fp, b ∈ Y.ex) (hfp : ∀ b ∈ fp, b ≠ Y.env.locals ∧ b ∉ Y.fs ∧ (∀ x c, Y.env.cells.lookup x = some c → c ≠ b) ∧ ∀ p ∈ Y.pn, p.1 ≠ b)
    (turn : TurnsA J g te vs σ' Qt Qf W) :
    ∀ (m i n : Nat) (s₀ s : Shared) (H : Hp), m < n → W i m H → Inv Y [] σ' H s → tn i s.heap → (∀ b ∈ fp, H b = none) →
      Seg (model Y.prog Y.w) A (GExA Y Qf) (GYA Y Qt) n s₀ (.compLoop (.GeneratorExp elt [⟨tg, iter, [], 0⟩] scope gpos) 0 (.ref it) .none Y.env)
        ((model Y.prog Y.w).den (.compLoop (.GeneratorExp elt [⟨tg, iter, [], 0⟩] scope gpos) 0 (.ref it) .none Y.env)) [] s := by
  have fok : ∀ {H : Hp}, (∀ b ∈ fp, H b = none) → ∀ b ∈ fp, FpOk Y [] H b := fun {H} hn b hb => by
    obtain ⟨q1, q2, q3, q4⟩ := hfp b hb
    refine ⟨hn b hb, q1, q2, .inl (hex b hb), q3, fun p hp => ?_⟩
    rcases List.mem_append.mp hp with z | z
    · exact q4 p z
    · cases z
  intro m
  induction m using Nat.strongRecOn with
  | ind m ih =>
  intro i n s₀ s H hn hw I hst hf
  show Seg _ A _ _ _ s₀ _ ((compTurn (.GeneratorExp elt [⟨tg, iter, [], 0⟩] scope gpos) 0 (.ref it) .none Y.env).onRaise (leaving Y.env)) [] s
  rw [compTurn_gen, Sem.onRaise_eq_wrap]
  refine seg_bind_wrap (wpAny_standAt ?_)
  rcases turn i m H hw with ⟨stop, hc⟩ | ⟨go, step⟩
  · refine seg_bind_wrap ?_
    rw [over_gx, hA]
    refine wpAny_mono (T.done Y rfl rfl rfl hcalm i _ s σ' H Y.xe I (fok hf) hst stop) (fun rr s4 ⟨hr, I4⟩ => ?_) fun e s' hx => (hxe e s' hx).elim
    subst hr
    exact seg_end (.ok .next) ⟨rfl, _, σ', H, I4, hc⟩
  · obtain ⟨n, rfl⟩ : ∃ k, n = k + 1 := ⟨n - 1, by omega⟩
    refine seg_bind_wrap ?_
    rw [over_gx, hA]
    refine wpAny_mono (T.item Y rfl rfl rfl hcalm i _ s σ' H Y.xe I (fok hf) hst go) (fun rr s4 ⟨u, hr, h4⟩ => ?_) fun e s' hx => (hxe e s' hx).elim
    subst hr
    refine seg_bind_wrap ?_
    rw [over_gx, hA]
    refine wpAny_mono h4 (fun _ s5 ⟨x, H5, I5, r5, y5, st5, fr5⟩ => ?_) fun e s' hx => (hxe e s' hx).elim
    have I5' := I5.pinned (fok fr5) (T.obj _ _ st5)
    refine seg_bind_wrap ?_
    rw [over_gx, hA]
    refine wpAny_mono (hg.run _ s5 σ' H5 x u _ I5' r5 (step x H5 y5)) (fun _ s6 ⟨σ6, H6, I6, hwp, q6⟩ => ?_) fun e s' hx => (hxe e s' hx).elim
    simp only [List.forIn_nil]
    refine seg_bind_wrap (wpAny_pure ?_)
    simp only [if_true]
    have hy : ∀ v, yieldOut Y.env v = yieldValue v := fun v => by simp only [yieldOut, hsc, hco, Bool.false_eq_true, if_false]
    simp only [hy]
    rw [Sem.bind_eq_wrap', Sem.bind_eq_wrap', Sem.wrap_wrap, Sem.wrap_wrap]
    refine seg_wrap ?_
    rw [over_gx, hA]
    refine wpAny_mono (he.run _ s6 σ6 H6 _ I6 q6) (fun v s7 ⟨y, H7, I7, r7, w7⟩ => ?_) fun e s' hx => (hxe e s' hx).elim
    rcases w7 with ⟨rfl, qt⟩ | ⟨rfl, m', hm', w7⟩
    · obtain rfl : v = .bool true := r7
      exact seg_at (seg_yield rfl rfl rfl ⟨true, pinsAt fp s5.heap, σ6, H7, rfl, I7, (fun _ => qt), (fun z => by cases z)⟩)
    · obtain rfl : v = .bool false := r7
      refine seg_at (seg_yield rfl rfl rfl ⟨false, pinsAt fp s5.heap, σ6, H7, rfl, I7, (fun z => by cases z), fun _ s8 z => ?_⟩)
      have I8 := Inv.woken0 I7 z
      have pin8 : ∀ b ∈ fp, ∀ o, s5.heap.get? b = some o → s8.heap.get? b = some o ∧ H7 b = none := fun b hb o e => by
        have q := I8.pin (b, o) (List.mem_append_right _ (mem_pinsAt hb e))
        exact ⟨q.1, q.2.1⟩
      refine seg_again rfl (ih m' hm' (i + 1) n s8 s8 H7 (by omega) w7 ?_ (T.keep _ _ _ st5 fun b hb o e => (pin8 b hb o e).1) fun b hb => ?_)
      · have I9 : Inv Y [] σ6 H7 s8 := I8.pins_of fun p hp => by cases hp
        refine I9.weak (by rw [← hwp, wipe_length]) fun j v' e => ?_
        rw [← hwp] at e
        exact (wipe_some e).1
      · obtain ⟨o, e, _⟩ := T.obj _ _ st5 b hb
        exact (pin8 b hb o e).2
end
def tAnyGx (P : Addr) (wi : TI) (g : TG) (te : TE) (vs : List Nat) (fs : L2.St → L2.St) : TE := fun σ H Q => wi σ H fun J H1 => TabG H1 P ∧ ∀ H2, Tabbed P H1 H2 → ∃ W : Nat → Nat → Hp → Prop, (∃ m, W 0 m H2) ∧ TurnsA J g te vs (fs σ) (Q (.bl true)) (Q (.bl false)) W
def GMadeA (P : Program) (w : World) (k : Nat) (outer : List Env) (H : Hp) (s : Shared) (ex : List Addr) (Qt Qf : Hp → Prop) (u : Value) (s' : Shared) : Prop :=
  ∃ (a : Addr) (g : Nat) (c : Code) (m : Nat), u = .ref a ∧ a < s'.heap.objs.size ∧ s'.heap.IsGen a g ∧ s'.gens[g]? = some (.fresh c) ∧ s'.os = s.os ∧ AllBare s'.gens ∧ s'.heap.NoLimit ∧
    ∀ (A : Around) (s2 : Shared), Room k A → A.frames = some outer → (∀ b o, s'.heap.get? b = some o → s2.heap.get? b = some o) → s2.os = s.os → AllBare s2.gens →
      Seg (model P w) A (RA (MidA P w outer H s ex Qf)) (YA (MidA P w outer H s ex Qt) a g s.os) m s2 c ((model P w).den c) [] s2
section
variable {X : Cx} {N : List Str} {scope : Scope} {tg iter elt : Expr} {gpos : Pos} {g : TG} {te : TE} {vs : List Nat} {wi : TI} {fs : L2.St → L2.St} {c P : Addr} {k : Nat}
theorem pgen_any (hr : Room 1 X.A) (TB : TabB X.base X.mg c P) (hcode : X.env.code = .ref c) (S : GxV X.env.scope scope) (hi : PI X tg iter wi)
    (hfs : ∀ (σ : L2.St) (i : Nat) (x : Str) (v : V), N[i]? = some x → (fs σ)[i]? = some (some v) → scope.names.lookup x = some .free ∧ ∃ j : Nat, X.N[j]? = some x ∧ σ[j]? = some (some v))
    (hlen : ∀ σ, (fs σ).length = N.length)
    (hg : ∀ C code A s H fp pn, Room k (A.deeper (gxEnv X scope C code)) → PG (gx X N scope C code A s H fp pn) tg g)
    (he : ∀ C code A s H fp pn, Room k (A.deeper (gxEnv X scope C code)) → PE (gx X N scope C code A s H fp pn) elt te)
    (hs : ∀ v, genFold iter X.env v = pure v) {pins : List (Addr × Obj)} {s : Shared} {σ : L2.St} {H : Hp} {Q : VK} (I : Inv X pins σ H s) (h : tAnyGx P wi g te vs fs σ H Q) :
    wpAny (model X.prog X.w) X.A (eval (.GeneratorExp elt [⟨tg, iter, [], 0⟩] scope gpos) X.env) (fun u s' => ∃ H1 sc ex, Inv X pins σ H1 sc ∧ ExOk X pins ex ∧ GMadeA X.prog X.w (k + 1) X.stack H1 sc ex (Q (.bl true)) (Q (.bl false)) u s') X.xe s := by
  have hfree : ∀ y ∈ scope.names, y.2 = .free → ∃ c, X.env.cells.lookup y.1 = some c := fun y hy e => by
    rcases S.free y hy e with z | z
    · exact I.ok.has _ (.inl z)
    · exact I.ok.has _ (.inr z)
  refine wpAny_GeneratorExp_make S.co (closure_ok hfree) S.cell S.dot S.kind (by have := hr.dp; omega) ?_ hs
  refine thn (hi.run pins s σ H _ I h) fun xv s1 h1 => thn h1 fun itv s2 hP => ?_
  obtain ⟨it, fp, tn, J, H1, rfl, I2, T, st2, f2, ⟨ps, hPt, ht⟩, hrest⟩ := hP
  refine ⟨I2.nolimit, ?_⟩
  have tabS : s2.heap.get? P = some { cls := .none, data := .fields ps } := I2.hok P _ hPt
  have cd : PySem.W.CodeHd s2.heap c P := TB.code.keeps fun b u e => I2.bk b u e
  have cont' : ∀ (code : Value) (h3 : Heap) (tk : Nat) (ps' : Array Value), Heap.ExtBut P s2.heap h3 → s2.heap.objs.size ≤ h3.objs.size → h3.get? P = some { cls := .none, data := .fields ps' } → (∃ more, ps' = ps ++ more) → TriplesOk ps'.toList →
      wpAny (model X.prog X.w) X.A (builtinsFor X.env.globals X.env.builtins) (fun bi s₄ =>
        ∀ h', h'.Ns s₄.heap.objs.size (fun y => if y = ".0" then some (.ref it) else none) → Heap.SameBut s₄.heap.objs.size (s₄.heap.push { cls := .type "frame", data := .dict #[] }) h' →
          ∃ H1 sc ex, Inv X pins σ H1 sc ∧ ExOk X pins ex ∧ GMadeA X.prog X.w (k + 1) X.stack H1 sc ex (Q (.bl true)) (Q (.bl false)) (.ref h'.objs.size) { s₄ with
            gens := s₄.gens.push (.fresh (.compStart (.GeneratorExp elt [⟨tg, iter, [], 0⟩] scope gpos) 0 (.ref it) .none (genEnv scope (cloFrom X.env.cells scope.names []) s₄.heap.objs.size code bi X.env))),
            toks := s₄.toks + 1 + 1 + 1,
            heap := h'.push { cls := .type "generator", data := .fields #[.int s₄.gens.size 0, .str "<genexpr>" (s₄.toks + 1), .str (X.env.qual ++ "<genexpr>") (s₄.toks + 1 + 1)] } }) X.xe { s2 with heap := h3, toks := tk } := by
    intro code h3 tk ps' hx hsz hP3 hmore ht3
    obtain ⟨bm, ob, e1, e2, e3, e4, e5, e6, e7, e8⟩ := TB.bm
    have kp3 : ∀ b u, b ≠ P → s2.heap.get? b = some u → h3.get? b = some u := fun b u hb e => hx b u hb e
    refine wpAny_builtinsFor (m := X.mg) (by rw [I2.ok.glob]; exact (I2.mod.glob.keeps I2.bk).extBut hx TB.gP) e1 e2 (kp3 _ _ e4 (I2.bk _ _ e5)) e6 e7 e8 ?_
    obtain ⟨more, rfl⟩ := hmore
    have Isc : Inv X pins σ (upd H1 P (.tbl (ps ++ more))) { s2 with heap := h3, toks := tk } := inv_tab (g' := s2.gens) (d' := s2.drawn) I2 hPt kp3 hP3 I2.bare
    have tabbed : Tabbed P H1 (upd H1 P (.tbl (ps ++ more))) := ⟨⟨ps ++ more, upd_same, ht3⟩, fun b hb => upd_ne hb⟩
    obtain ⟨W, ⟨m0, w0⟩, turn⟩ := hrest _ tabbed
    have fpP : ∀ b ∈ fp, b ≠ P := fun b hb e => by
      have q := (f2 b hb).1
      rw [e, hPt] at q
      cases q
    have fp2 : ∀ b ∈ fp, upd H1 P (.tbl (ps ++ more)) b = none := fun b hb => by rw [upd_ne (fpP b hb)]; exact (f2 b hb).1
    intro h' hn' hs'
    have hsz' : h'.objs.size = h3.objs.size + 1 := by rw [hs'.1, Heap.size_push]
    have keep' : ∀ b o, h3.get? b = some o → h'.get? b = some o := fun b o e => hs'.extBut b o (Nat.ne_of_lt (Heap.lt_size e)) (Heap.get?_push_of_some _ e)
    refine ⟨_, _, fp, Isc, fun b hb => ?_, ?_⟩
    · obtain ⟨_, q2, _, q4, q5, q6⟩ := f2 b hb
      exact ⟨q4, q2, q5, q6⟩
    have main : ∀ (go : Obj) (nm qn : Value) (tk2 : Nat), go.cls = .type "generator" → go.data = .fields #[.int s2.gens.size 0, nm, qn] → go.slots = #[] → (∀ h : Heap, (h.push go).get? h.objs.size = some go) →
        GMadeA X.prog X.w (k + 1) X.stack (upd H1 P (.tbl (ps ++ more))) { s2 with heap := h3, toks := tk } fp (Q (.bl true)) (Q (.bl false)) (.ref h'.objs.size) { s2 with
            gens := s2.gens.push (.fresh (.compStart (.GeneratorExp elt [⟨tg, iter, [], 0⟩] scope gpos) 0 (.ref it) .none (gxEnv X scope h3.objs.size code))), toks := tk2, heap := h'.push go } := by
      intro go nm qn tk2 hgc hgd0 hgs hgp
      have hgen : ∀ h : Heap, h.get? h'.objs.size = some go → h.IsGen h'.objs.size s2.gens.size := fun h e => ⟨go, nm, qn, e, hgc, hgd0, hgs⟩
      have hpushed : (h'.push go).get? h'.objs.size = some go := hgp _
      have keepA : ∀ b o, h3.get? b = some o → (h'.push go).get? b = some o := fun b o e => Heap.get?_push_of_some _ (keep' b o e)
      refine ⟨h'.objs.size, s2.gens.size, _, m0 + 1, rfl, by show _ < (h'.push go).objs.size; rw [Heap.size_push]; exact Nat.lt_succ_self _, hgen _ hpushed, Array.getElem?_push_size .., rfl, AllBare.push I2.bare rfl, Isc.nolimit.keeps keepA, ?_⟩
      intro Aw s9 hrw hfr hk9 hos hba
      have kp9 : ∀ b o, h3.get? b = some o → s9.heap.get? b = some o := fun b o e => hk9 b o (keepA b o e)
      have hea : s9.heap.get? h'.objs.size = some go := hk9 _ go hpushed
      have hgd : ∀ v, go.data ≠ .cell v := fun v q => by rw [hgd0] at q; cases q
      have e0 := Isc.env0
      have cellsX : ∀ x c, (cloFrom X.env.cells scope.names []).lookup x = some c → X.env.cells.lookup x = some c := fun x c e => clo_of hfree e
      have fp3 : ∀ b ∈ fp, ∃ o, h3.get? b = some o := fun b hb => by
        obtain ⟨o, e, _⟩ := T.obj _ _ st2 b hb
        exact ⟨o, kp3 b o (fpP b hb) e⟩
      have stk : ∀ b, b ∉ X.fs → b ≠ X.env.locals → b ∉ frs X.stack := fun b h1 h2 hm => by
        rcases List.mem_cons.mp (Isc.stkSub b hm) with z | z
        · exact h2 z
        · exact h1 z
      have young : ∀ b, h3.objs.size ≤ b → upd H1 P (.tbl (ps ++ more)) b = none ∧ b ∉ frs X.stack ∧ b ∉ fp ∧ ∀ y c, X.env.cells.lookup y = some c → c ≠ b := fun b hb => by
        refine ⟨Isc.hok.fresh hb, stk b (Isc.nofs hb) (Nat.ne_of_gt (Nat.lt_of_lt_of_le Isc.lt hb)), fun hm => ?_, fun y c e z => ?_⟩
        · obtain ⟨o, e⟩ := fp3 b hm
          exact absurd (Nat.lt_of_lt_of_le (Heap.lt_size e) hb) (Nat.lt_irrefl _)
        · obtain ⟨v, ob, ho, _⟩ := Isc.cell y c e
          have := Heap.lt_size ho
          rw [z] at this
          exact absurd (Nat.lt_of_lt_of_le this hb) (Nat.lt_irrefl _)
      have okY : ∀ pn, (gx X N scope h3.objs.size code Aw { s2 with heap := h3, toks := tk } (upd H1 P (.tbl (ps ++ more))) fp pn).Ok := fun pn => by
        refine ⟨e0.mod, S.kind, I2.ok.glob, rfl, Nat.le_refl _, fun x y c h1 h2 => Isc.ok.inj x y c (cellsX x c h1) (cellsX y c h2), fun x hx' => ?_, fun x c h1 _ => (by cases h1), fun _ => hrw.hd, Around.frames_deeper hfr, .inr ⟨rfl, rfl⟩, fun b hb => ⟨?_, fun x c h1 => ?_⟩, e0.bs, e0.bsz, fun b o e hb => ?_, fun b hb => ?_, e0.funs, e0.frf⟩
        · have hx' : scope.names.lookup x = some .cell ∨ scope.names.lookup x = some .free := hx'
          rcases hx' with z | z
          · exact absurd rfl (S.cell _ (PySem.mem_of_lookup z))
          · exact clo_to z
        · obtain ⟨o, e⟩ := fp3 b hb
          exact Nat.ne_of_lt (Heap.lt_size e)
        · exact (f2 b hb).2.2.2.2.1 x c (cellsX x c h1)
        · rcases (f2 b hb).2.2.2.1 with z | z
          · exact Isc.ok.noex b o e z
          · exact absurd (Nat.lt_of_lt_of_le (Heap.lt_size e) (Nat.le_trans Isc.ok.bsz z)) (Nat.lt_irrefl _)
        · exact stk b (f2 b hb).2.2.1 (f2 b hb).2.1
      have IY : Inv (gx X N scope h3.objs.size code Aw { s2 with heap := h3, toks := tk } (upd H1 P (.tbl (ps ++ more))) fp [(h'.objs.size, go)]) [] (fs σ) (upd H1 P (.tbl (ps ++ more))) s9 := by
        refine ⟨okY _, hos, hba, Un.kept kp9, ⟨_, (hn'.push go).at' fun o e => hk9 _ o e, fun i x v h1 h2 h3' => ?_⟩, fun x c h1 => ?_, Isc.hok.fresh (Nat.le_refl _), fun x c h1 => Isc.freeC x c (cellsX x c h1), fun p hp => ?_, Isc.hok.kept kp9, hlen σ⟩
        · obtain ⟨hfr', j, hj, hv⟩ := hfs σ i x v h1 h2
          obtain ⟨c', hc'⟩ := clo_to (cells := X.env.cells) hfr'
          obtain ⟨m, _, hl⟩ := Isc.loc
          have hk : X.env.scope.names.lookup x = some .cell ∨ X.env.scope.names.lookup x = some .free := S.free _ (PySem.mem_of_lookup hfr') rfl
          obtain ⟨u, ru, hu⟩ := hl j x v hj hv (hk.elim (fun z => .inr (.inl z)) fun z => .inr (.inr z))
          refine ⟨u, ru, .inr ⟨.inr hfr', c', hc', ?_⟩⟩
          rcases hu with ⟨z, _⟩ | ⟨_, c2, hc2, cell2⟩
          · have z : X.env.scope.names.lookup x = some .local := z
            rcases hk with q | q
            · rw [z] at q; cases q
            · rw [z] at q; cases q
          · have := cellsX x c' hc'
            rw [hc2] at this
            cases this
            obtain ⟨ob, ho, r⟩ := cell2
            exact ⟨ob, kp9 _ ob ho, r⟩
        · obtain ⟨v, ob, ho, r⟩ := Isc.cell x c (cellsX x c h1)
          exact ⟨v, ob, kp9 _ ob ho, r⟩
        · rcases List.mem_append.mp hp with z | z
          · rw [List.mem_singleton.mp z]
            obtain ⟨y1, y2, _⟩ := young h'.objs.size (by omega)
            exact ⟨hea, y1, by show h'.objs.size ≠ h3.objs.size; omega, y2, hgd⟩
          · cases z
      have st9 : tn 0 s9.heap := T.keep _ _ _ st2 fun b hb o e => kp9 b o (kp3 b o (fpP b hb) e)
      have pinned : ∀ {ip : List (Addr × Obj)} {s' : Shared} {σ' : L2.St} {H' : Hp}, Inv (gx X N scope h3.objs.size code Aw { s2 with heap := h3, toks := tk } (upd H1 P (.tbl (ps ++ more))) fp [(h'.objs.size, go)]) ip σ' H' s' → s'.heap.IsGen h'.objs.size s2.gens.size := fun {ip s' σ' H'} J =>
        hgen _ (J.pin (h'.objs.size, go) (List.mem_append_left _ (List.mem_singleton.mpr rfl))).1
      refine seg_imp (R := GExA (gx X N scope h3.objs.size code Aw { s2 with heap := h3, toks := tk } (upd H1 P (.tbl (ps ++ more))) fp [(h'.objs.size, go)]) (Q (.bl false))) (Y := GYA (gx X N scope h3.objs.size code Aw { s2 with heap := h3, toks := tk } (upd H1 P (.tbl (ps ++ more))) fp [(h'.objs.size, go)]) (Q (.bl true))) (fun n s₀ r s1' hR => ?_) (fun n s₀ v s1' kap kap' hkk hY => ?_) (m0 + 1) ?_
      · obtain ⟨rfl, ip, σ', H', J', hQ⟩ := hR
        exact .inl ⟨.inr rfl, H', J'.os, J'.bare, J'.base, J'.hok, hQ⟩
      · obtain ⟨b, ip, σ', H', rfl, J', h1', h2'⟩ := hY
        exact ⟨J'.os, J'.bare, J'.nolimit, pinned J', b, rfl, fun z => ⟨H', J'.os, J'.bare, J'.base, J'.hok, h1' z⟩, fun z s' y => hkk _ _ (h2' z s' y)⟩
      · refine seg_begin (Y := (gx X N scope h3.objs.size code Aw { s2 with heap := h3, toks := tk } (upd H1 P (.tbl (ps ++ more))) fp [(h'.objs.size, go)])) hrw.hd rfl T st9 ?_
        refine seg_turnsA (Y := (gx X N scope h3.objs.size code Aw { s2 with heap := h3, toks := tk } (upd H1 P (.tbl (ps ++ more))) fp [(h'.objs.size, go)])) hrw.hd rfl rfl (fun _ _ z => z) rfl S.co T (hg _ _ _ _ _ _ _ (hrw.deeper _)) (he _ _ _ _ _ _ _ (hrw.deeper _)) (fun b hb => hb) (fun b hb => ?_) turn m0 0 (m0 + 1) s9 s9 _ (Nat.lt_succ_self _) w0 IY st9 fp2
        obtain ⟨_, q2, q3, q4, q5, q6⟩ := f2 b hb
        obtain ⟨o, e⟩ := fp3 b hb
        refine ⟨Nat.ne_of_lt (Heap.lt_size e), stk b q3 q2, fun x c h1 => q5 x c (cellsX x c h1), fun p hp => ?_⟩
        rw [List.mem_singleton.mp hp]
        exact fun z => absurd (Heap.lt_size e) (by rw [← z]; show ¬ h'.objs.size < h3.objs.size; omega)
    exact main _ _ _ _ rfl rfl rfl fun h => Heap.get?_push_size _ rfl
  cases hf : codeAmong gpos ps.toList with
  | none =>
    refine wpAny_genexprCodeX hcode (cd.code tabS ht) (cd.tab tabS) hf fun c' h' tk hx hge hlt hco' _ htab' _ => ?_
    obtain ⟨o1, us, f1, tf, fl, tg, inF, tx, tt, op, _, _, _, _, _, _, _, _, _, htr, _⟩ := hco'
    exact cont' _ h' tk _ hx (Nat.le_trans hge (Nat.le_of_lt hlt)) htab'.2 ⟨_, rfl⟩ htr
  | some cv =>
    refine wpAny_genexprCode_hit hcode (cd.code tabS ht) hf ?_
    exact cont' cv s2.heap s2.toks ps (Heap.ExtBut.refl _ _) (Nat.le_refl _) tabS ⟨#[], by simp⟩ ht
end
section
theorem call_any_new {P : Program} {w : World} {outer : List Env} {H : Hp} {sc s : Shared} {ex : List Addr} {Qt Qf : Hp → Prop} {A : Around} {k : Nat} {a : Addr} {Q' : Value → Shared → Prop} {E : Value → Shared → Prop}
    (hr : Room (k + 3) A) (hfr : A.frames = some outer) (h : GMadeA P w k outer H sc ex Qt Qf (.ref a) s)
    (ht : ∀ s', MidA P w outer H sc ex Qt s' → Q' (.bool true) s') (hf : ∀ s', MidA P w outer H sc ex Qf s' → Q' (.bool false) s') :
    wpAny (model P w) A (call (.builtin "any") [.ref a]) Q' E s := by
  obtain ⟨a', g, c, m, ea, ha2, hg, hgs, hos, hb, hl, wake⟩ := h
  cases ea
  refine call_function_tree F.kind_any F.plain_any F.entry_any (F.args_any1 _) ?_
  unfold Builtin.«any»
  refine wpAny_bind (m := oneArg "any" _) (wpAny_pure ?_)
  refine wpAny_bind (wpAny_pyIter_gen hg ?_)
  refine wpAny_pure ⟨plainId_quiet F.plain_any_loop _, ?_⟩
  refine any_loop (P := P) (w := w) (outer := outer) (H := H) (sc := sc) (ex := ex) (Qt := Qt) (Qf := Qf) (g := g) hr.hd (by have := hr.dp; omega) ht hf m _ hg hl ⟨_, hgs, rfl, ?_⟩
  refine wake _ _ ⟨hr.hd, ?_, ?_⟩ hfr (fun _ _ e => e) hos (allBare_setGen hb rfl)
  · have := hr.dp
    show A.depth + 3 * k + 5 < _
    omega
  · have := hr.un
    show A.units + 1 + 1 + 16 * k + 200 < _
    omega
end
section
variable {X : Cx} {N : List Str} {scope : Scope} {tg iter elt : Expr} {gpos p pos : Pos} {g : TG} {te : TE} {vs : List Nat} {wi : TI} {fs : L2.St → L2.St} {c P : Addr} {k : Nat}
theorem pe_anyGx (hr : Room (k + 4) X.A) (hgl : Gl X "any") (hm : X.mg "any" = none) (TB : TabB X.base X.mg c P) (hcode : X.env.code = .ref c) (S : GxV X.env.scope scope) (hi : PI X tg iter wi)
    (hfs : ∀ (σ : L2.St) (i : Nat) (x : Str) (v : V), N[i]? = some x → (fs σ)[i]? = some (some v) → scope.names.lookup x = some .free ∧ ∃ j : Nat, X.N[j]? = some x ∧ σ[j]? = some (some v))
    (hlen : ∀ σ, (fs σ).length = N.length)
    (hg : ∀ C code A s H fp pn, Room k (A.deeper (gxEnv X scope C code)) → PG (gx X N scope C code A s H fp pn) tg g)
    (he : ∀ C code A s H fp pn, Room k (A.deeper (gxEnv X scope C code)) → PE (gx X N scope C code A s H fp pn) elt te)
    (hs : ∀ v, genFold iter X.env v = pure v)
    (hst : starEach [.GeneratorExp elt [⟨tg, iter, [], 0⟩] scope gpos] X.env = (false, eval (.GeneratorExp elt [⟨tg, iter, [], 0⟩] scope gpos) X.env) :: starEach [] X.env := by rfl) :
    PE X (.Call (.Name "any" p) [.GeneratorExp elt [⟨tg, iter, [], 0⟩] scope gpos] [] pos) (tAnyGx P wi g te vs fs) := by
  refine ⟨fun pins s σ H Q I h => ?_⟩
  refine wpAny_Call_Name_kw (ld_blt I hgl hm boot_any ?_)
  refine PyProof.Rows.callWith_builtin1 ?_ hst (by rfl)
  rw [hst]
  show wpAny _ _ (spliced ((false, eval (.GeneratorExp elt [⟨tg, iter, [], 0⟩] scope gpos) X.env) :: backTo pos (starEach [] X.env))) _ _ s
  refine Calls.spliced_cons (thn (pgen_any (k := k) (N := N) (hr.mono (by omega)) TB hcode S hi hfs hlen hg he hs I h) fun u s1 ⟨H1, sc, ex, I1, hex, hG⟩ => ?_)
  refine Calls.spliced_nil ?_
  have hu : ∃ a, u = .ref a := by
    obtain ⟨a, g, c, _, e, _⟩ := hG
    exact ⟨a, e⟩
  obtain ⟨a, rfl⟩ := hu
  refine call_any_new hr I1.ok.frames hG (fun s' ⟨H', q1, q2, q3, q4, q5⟩ => ?_) fun s' ⟨H', q1, q2, q3, q4, q5⟩ => ?_
  · exact ⟨.bl true, H', I1.call' (ch := ex) q1 q3 q4 q2 hex, rfl, q5⟩
  · exact ⟨.bl false, H', I1.call' (ch := ex) q1 q3 q4 q2 hex, rfl, q5⟩
end
end GW
set_option maxHeartbeats 4000000
namespace My
open PySem PySem.Spec PyProof.Rows L2 GX GxR
abbrev s_scWOf : Stmt := topS 8
abbrev n_scWOf : List Str := ["gang"]
theorem scWOf : FnScope n_scWOf ["gang"] (defScope s_scWOf) := ⟨rfl, rfl, rfl, by decide +kernel, rfl, by decide +kernel, by decide +kernel⟩
abbrev s_scShs : Stmt := topS 10
abbrev n_scShs : List Str := ["estate", "gangs", "house", "yard", "room", "kind", "state", "gang"]
theorem scShs : FnScope n_scShs ["estate", "gangs"] (defScope s_scShs) := ⟨rfl, rfl, rfl, by decide +kernel, rfl, by decide +kernel, by decide +kernel⟩
theorem dnn2 : V.bl false = V.bl (!decide (V.non = V.non)) := by rw [decide_eq_true rfl]; rfl
theorem inj_nd {α β : Type} {f : α → β} : ∀ {l : List α}, (l.map f).Nodup → ∀ {a b : α}, a ∈ l → b ∈ l → f a = f b → a = b
  | x :: l, h, a, b, ha, hb, e => by
    rw [List.map_cons, List.nodup_cons] at h
    rcases List.mem_cons.mp ha with e1 | ha <;> rcases List.mem_cons.mp hb with e2 | hb
    · rw [e1, e2]
    · exact absurd (List.mem_map.mpr ⟨b, hb, by rw [← e, e1]⟩) h.1
    · exact absurd (List.mem_map.mpr ⟨a, ha, by rw [e, e2]⟩) h.1
    · exact inj_nd h.2 ha hb e
/-- a gang in a list of gangs, by its want -/
def GwAt (H : Hp) (v : V) (want : List Int) : Prop := ∃ (a wt : Addr) (z gd how : Str) (rk many ln : Int), v = .ref a ∧ GangT H a wt z gd how rk many ln want
theorem GwAt.kt {H H' : Hp} {v : V} {want : List Int} (k : KTu H H') (h : GwAt H v want) : GwAt H' v want := by
  obtain ⟨a, wt, z, gd, how, rk, many, ln, e, h1, h2⟩ := h
  exact ⟨a, wt, z, gd, how, rk, many, ln, e, k _ _ h1, k _ _ h2⟩
def spWOf : Sp := fun vs H Q _ => ∃ (g wt : Addr) (z gd how : Str) (rk many ln : Int) (want : List Int), vs = [.ref g] ∧ GangT H g wt z gd how rk many ln want ∧ Q (.ref wt) H
/-- a house that no one of the wants needs -/
def spareP (ws : List (List Int)) (h : Hm) : Bool := h.kind.isSome && h.bs.isEmpty && !(ws.any fun want => fitB want h.room)
def spShs (CE CH CB T Tf : Addr) : Sp := fun vs H Q _ => ∃ (hn gn : List Str) (W : Nat) (e edx hd pd gs : Addr) (pps : List (Key × V)) (L : List Hp2) (gvs : List V) (ws : List (List Int)), vs = [.ref e, .ref gs] ∧ EsAt CE CH CB H e edx hd pd pps L ∧ MGood hn gn W (L.map (·.2)) ∧ H gs = some (.lst gvs) ∧ Paired (GwAt H) gvs ws ∧ Tabs [T, Tf] H ∧
  ∀ (H' : Hp) (l : Addr) (zs : List Str), Fw [T, Tf] H H' → H l = none → H' l = some (.lst (zs.map V.str)) → sortedS zs = true → zs.Perm (((L.map (·.2)).filter (spareP ws)).map (·.name)) → Q (.ref l) H'
abbrev nShG : List Str := ["gang", "room"]
theorem nd_shg : nShG.Nodup := by decide +kernel
abbrev fsShG (σ : L2.St) : L2.St := [none, (σ[4]?).join]
theorem shg_fs {scope : Scope} {N : List Str} (h1 : scope.names.lookup ("room" : Str) = some NameKind.free) (h2 : N[4]? = some ("room" : Str)) {σ : L2.St} {i : Nat} {x : Str} {v : V} (e1 : nShG[i]? = some x) (e2 : (fsShG σ)[i]? = some (some v)) : scope.names.lookup x = some NameKind.free ∧ ∃ j : Nat, N[j]? = some x ∧ σ[j]? = some (some v) := by
  match i, e1, e2 with
  | 0, _, e2 => exact nomatch e2
  | 1, e1, e2 =>
    cases e1
    have e2 : (σ[4]?).join = some v := Option.some.inj e2
    exact ⟨h1, 4, h2, by cases e : σ[4]? with
      | none => rw [e] at e2; exact nomatch e2
      | some z => rw [e] at e2; exact congrArg some e2⟩
  | n + 2, e1, e2 => exact nomatch e1
def gxC2 (sc scope : Scope) : Bool := decide (scope.kind = .function) && decide (scope.isCoroutine = false) && scope.names.all (fun y => decide (y.2 ≠ .cell)) && decide (scope.names.lookup (".0" : Str) = some NameKind.local) && scope.names.all (fun y => decide (y.2 = .free → sc.names.lookup y.1 = some .cell ∨ sc.names.lookup y.1 = some .free))
theorem gxv2 {sc scope : Scope} (h : gxC2 sc scope = true) : GW.GxV sc scope := by
  unfold gxC2 at h
  simp only [Bool.and_eq_true, decide_eq_true_eq, List.all_eq_true] at h
  obtain ⟨⟨⟨⟨h1, h2⟩, h3⟩, h4⟩, h5⟩ := h
  exact ⟨h1, h2, h3, h4, fun y hy => h5 y hy⟩
/-- any over a list, the element leaves it as it is and tells p of it -/
theorem any_list {K : PySem.W.Frag} {a : Addr} {xs : List V} {g : TG} {te : TE} {vs : List Nat} {σ' : L2.St} {Qt Qf : Hp → Prop} {H2 : Hp} (Pv : Nat → Hp → Prop) (h0 : Pv 0 H2) (hl : ∀ i H, i ≤ xs.length → Pv i H → SqL K H a xs)
    (hs : ∀ (i : Nat) (x : V) (H : Hp) (Kk : V → Hp → Prop), (∀ H3, Pv (i + 1) H3 → Kk (.bl false) H3) → (∀ H3, Qt H3 → Kk (.bl true) H3) → xs[i]? = some x → Pv i H → g x σ' H fun σb H2 => wipe σb vs = σ' ∧ te σb H2 Kk) (hd : ∀ H, Pv xs.length H → Qf H) :
    ∃ W : Nat → Nat → Hp → Prop, (∃ m, W 0 m H2) ∧ GW.TurnsA (Itl K a) g te vs σ' Qt Qf W := by
  refine ⟨fun i m H => m = xs.length - i ∧ i ≤ xs.length ∧ Pv i H, ⟨xs.length, rfl, Nat.zero_le _, h0⟩, ?_⟩
  rintro i m H ⟨rfl, hi, p⟩
  have q := hl i H hi p
  by_cases hlt : i < xs.length
  · refine .inr ⟨⟨xs, xs[i], q, by simp [hlt]⟩, fun x H' y => ?_⟩
    obtain ⟨e, y⟩ := y
    subst e
    exact hs i x _ _ (fun H3 h3 => .inr ⟨rfl, xs.length - (i + 1), by omega, rfl, hlt, h3⟩) (fun H3 h3 => .inl ⟨rfl, h3⟩) (y xs q) p
  · have e : i = xs.length := by omega
    subst e
    exact .inl ⟨⟨xs, q, Nat.le_refl _⟩, hd H p⟩
section
variable {X : Cx}
theorem pt_truthK {K : PySem.W.Frag} {a : Expr} {ta : TE} (hK : X.K = K) (ha : PE X a ta) (he : ∀ whole, isTrue a X.env whole = (do let v ← whole; standAt a.pos; holding [v] (truthy v))) : PT X a (fun σ H Q => ta σ H fun x H' => ∃ k, TruV K x H' k ∧ Q k H') := by
  rw [← hK]
  exact pt_truth ha he
theorem pi_listK {K : PySem.W.Frag} {tg e : Expr} {te : TE} (hK : X.K = K) (he : PE X e te) : PI X tg e (iList K te) := by
  rw [← hK]
  exact pi_list he
end
section
variable {P : Program} {w : World} {K : PySem.W.Frag} {mg : Str → Option Value} {base : Heap} {CE CH CB : Addr}
theorem ok_wof {f : Addr} {fd : FuncData} {k : Nat} (F : Fun K "want_of" "want_of" s_scWOf f fd) (X : Txt mg) : FnOk P w K mg base CX0 (k + 1) f fd ["gang"] spWOf := by
  refine F.ok scWOf (fun vs H Q E h => ?_) (fun cdv A outer s H vs Q E hr h => ?_)
  · obtain ⟨g, wt, z, gd, how, rk, many, ln, want, rfl, _⟩ := h
    rfl
  · obtain ⟨g, wt, z, gd, how, rk, many, ln, want, rfl, ⟨hg, hw⟩, q⟩ := h
    refine ⟨_, (pss_one (ps_ret (pe_ix ix_tup (pv 0) pe_int (fun _ _ => rfl)))), ?_⟩
    exact ⟨_, rfl, g, _, 4, .ref wt, rfl, rfl, SqT.of hg, rfl, q⟩
theorem ok_shs {f c fAF fWO fHR fEI NH T Tf : Addr} {fd fdAF fdWO fdHR fdEI : FuncData} {k : Nat} (F : FunC K "spare_houses" "spare_houses" s_scShs f fd c) (X : Txt mg) (mAny : mg "any" = none) (TB : TabB base mg c T) (cc : ECls K CE)
    (GAF : FnOk P w K mg base CX0 k fAF fdAF ["one", "other"] (spFits K Tf)) (mAF : mg "amount_fits" = some (.ref fAF)) (kAF : PySem.W.keepIn K (.ref fAF) = true) (bAF : L2.Binds K fdAF ["one", "other"] [])
    (GWO : FnOk P w K mg base CX0 k fWO fdWO ["gang"] spWOf) (mWO : mg "want_of" = some (.ref fWO)) (kWO : PySem.W.keepIn K (.ref fWO) = true) (bWO : L2.Binds K fdWO ["gang"] [])
    (GHR : FnOk P w K mg base CX0 k fHR fdHR ["self"] (spHRows CE CH CB)) (MHR : Meth K CE "house_rows" fHR) (bHR : L2.Binds K fdHR ["self"] [])
    (GEI : FnOk P w K mg base (L2.CX P w) k fEI fdEI ["self", "name"] (spEIn CE CH CB NH)) (MEI : Meth K CE "entries_in" fEI) (bEI : L2.Binds K fdEI ["self", "name"] []) :
    FnOk P w K mg base CX0 (k + 5) f fd ["estate", "gangs"] (spShs CE CH CB T Tf) := by
  have cE := cc.cls
  refine F.ok scShs (fun vs H Q E h => ?_) (fun A outer s H vs Q E hr h => ?_)
  · obtain ⟨hn, gn, W, e, edx, hd, pd, gs, pps, L, gvs, ws, rfl, _⟩ := h
    rfl
  · obtain ⟨hn, gn, W, e, edx, hd, pd, gs, pps, L, gvs, ws, rfl, B, G, hgs, hgw, tb, q⟩ := h
    refine ⟨_, (pss_one (ps_ret (pe_lc (own := [("house", 2), ("yard", 3), ("room", 4), ("kind", 5), ("state", 6)]) (g := (gTup K 5 (gCons (gName 2) (gCons (gName 3) (gCons (gName 4) (gCons (gName 5) (gCons (gName 6) gNil))))))) rfl scShs.nd (pi_list (pe_meth0 (pv 0) cE MHR GHR (hr.mono (by omega)) bHR .nil pass0)) (blkOk_by (own := [("house", 2), ("yard", 3), ("room", 4), ("kind", 5), ("state", 6)]) (N := n_scShs) (sc := defScope s_scShs) (by decide +kernel)) (fun _ _ _ _ _ => (pg_tup rfl (pgs_cons (pg_name (i := 2) scShs.nd rfl (.inl rfl)) (pgs_cons (pg_name (i := 3) scShs.nd rfl (.inl rfl)) (pgs_cons (pg_name (i := 4) scShs.nd rfl (.inr rfl)) (pgs_cons (pg_name (i := 5) scShs.nd rfl (.inl rfl)) (pgs_cons (pg_name (i := 6) scShs.nd rfl (.inl rfl)) pgs_nil))))))) (fun _ _ _ _ _ => pts_one (PW.pt (pw_and (pt_cmpR op_notN (pv 5) pe_non (nomark _)) (pw_and (pt_not (pt_truthK (K := K) rfl (pe_meth (pv 0) cE MEI GEI (hr.mono (by omega)) bEI .nil passE (pa_cons (pv 2) pa_nil)) (by intro _; rfl))) (pw_and1 (pt_not (pt_val (GW.pe_anyGx (k := k) (N := nShG) (fs := fsShG) (vs := [0]) (g := gName 0) (hr.mono (by omega)) (by rfl) mAny TB rfl (gxv2 (by rfl)) (pi_listK (K := K) rfl (pv 1)) (fun σ i x v h1 h2 => shg_fs rfl rfl h1 h2) (fun _ => rfl) (fun C code A s H fp pn hrr => pg_name (i := 0) nd_shg rfl (.inl rfl)) (fun C code A s H fp pn hrr => pe_call GAF hrr (by rfl) mAF kAF bAF .nil pass0 (pa_cons (pe_call GWO hrr (by rfl) mWO kWO bWO .nil pass0 (pa_cons (pv 0) pa_nil)) (pa_cons (pv 1) pa_nil))) (fun _ => rfl))))))))) (fun _ _ _ _ _ => (pv 2))))), ?_⟩
    have few := B.eh.few
    have t0 : T ∈ [T, Tf] := List.mem_cons_self
    have tf : Tf ∈ [T, Tf] := List.mem_cons_of_mem _ List.mem_cons_self
    refine ⟨_, rfl, e, edx, _, rfl, B.obj, rfl, e, edx, hd, pd, L, rfl, B.eh, B.each, fun l L' ts H1 pL so s1 nl e1 r1 => ⟨l, rfl, ⟨_, SqL.of e1⟩, fun D nD => ?_⟩⟩
    have lts := r1.length
    have tb1 : Tabs [T, Tf] H1 := fun X hX => TabG.same s1 (tb X hX)
    have B1 := B.same s1
    have lL := pL.length_eq
    refine lc_list (K := K) (xs := ts.map V.ref) (fun i H' => Fw [T, Tf] H1 H' ∧ H' D = some (.lst (((((L'.take i).map (·.2)).filter (spareP ws)).map (·.name)).map V.str))) ⟨Fw.same tb1 (same_upd nD), upd_same⟩ (fun i H' _ p => SqL.of (p.1.lst tb1 e1)) (fun i x H' hx p => ?_) (fun H2 pm2 => ?_)
    · obtain ⟨p1, p2⟩ := p
      rw [List.getElem?_map] at hx
      cases ht : ts[i]? with
      | none => rw [ht] at hx; cases hx
      | some t =>
        rw [ht] at hx
        obtain rfl : V.ref t = x := Option.some.inj hx
        obtain ⟨pr, hp, ri⟩ := paired_get r1 ht
        have hpm : pr ∈ L := pL.mem_iff.mp (List.mem_of_getElem? hp)
        have tk : (L'.take (i + 1)).map (·.2) = (L'.take i).map (·.2) ++ [pr.2] := by rw [List.take_add_one, hp, List.map_append]; rfl
        have lsm : (((((L'.take i).map (·.2)).filter (spareP ws)).map (·.name)).map V.str).length + 1 ≤ 100 := by
          rw [List.length_map, List.length_map]
          have := List.length_filter_le (spareP ws) ((L'.take i).map (·.2))
          rw [List.length_map, List.length_take] at this
          omega
        have ri' : HrAt H' t pr := p1.kt tb1 _ _ ri
        have rm' : H' pr.1.m = some (.tup (pr.2.room.map V.int)) := p1.kt tb1 _ _ (B1.each pr hpm).book.rm
        have B' := B1.fw tb1 p1
        have no : ∀ H3, Fw [T, Tf] H' H3 → H3 D = some (.lst (((((L'.take i).map (·.2)).filter (spareP ws)).map (·.name)).map V.str)) → spareP ws pr.2 = false → Fw [T, Tf] H1 H3 ∧ H3 D = some (.lst (((((L'.take (i + 1)).map (·.2)).filter (spareP ws)).map (·.name)).map V.str)) := fun H3 f3 d3 z => by
          refine ⟨p1.trans f3, ?_⟩
          rw [tk, List.filter_append, show [pr.2].filter (spareP ws) = [] by simp [z], List.append_nil]
          exact d3
        refine ⟨t, _, rfl, SqT.of ri', rfl, _, _, rfl, _, _, rfl, _, _, rfl, _, _, rfl, _, _, rfl, rfl, ?_⟩
        refine ⟨rfl, ?_⟩
        cases hk : pr.2.kind with
        | none =>
          refine ⟨_, rfl, rfl, false, dnn2.symm, iteF (iteF ?_)⟩
          exact no H' (Fw.refl p1.tabs) p2 (by unfold spareP; rw [hk]; rfl)
        | some kd =>
          refine ⟨_, rfl, rfl, true, by rw [decide_eq_false (by intro z; cases z)]; rfl, iteT ?_⟩
          refine ⟨_, rfl, e, edx, _, rfl, B'.obj, rfl, _, rfl, e, edx, hd, pd, L, pr.2.name, rfl, B'.eh, B'.each, ?_, fun pq hq en l2 H4 as ss s4 nl2 e4 pa ik => ?_, fun z => ?_⟩
          · exact B.good.nm _ (List.mem_map.mpr ⟨pr, hpm, rfl⟩)
          · have epq : pq = pr := inj_nd B.nd hq hpm en
            rw [epq] at ik
            clear pq hq en epq
            have D4 := s4 _ _ p2
            have tab4 : Tabs [T, Tf] H4 := fun X hX => TabG.same s4 (p1.tabs X hX)
            have ll : as.length = pr.2.bs.length := by
              have h1 := pa.length
              have h2 := ik.1.length_eq
              rw [h1, h2]
            refine ⟨!(as.map V.ref).isEmpty, .inl ⟨_, SqL.of e4, rfl⟩, ?_⟩
            cases hb : pr.2.bs with
            | cons b0 bs0 =>
              rw [hb] at ll
              cases as with
              | nil => cases ll
              | cons a0 as0 =>
                refine iteF (iteF ?_)
                exact no H4 (Fw.same p1.tabs s4) D4 (by unfold spareP; rw [hb]; simp)
            | nil =>
              rw [hb] at ll
              obtain rfl : as = [] := List.eq_nil_of_length_eq_zero ll
              refine iteT ?_
              have g4 : H4 gs = some (.lst gvs) := s4 _ _ (p1.lst tb1 (s1 _ _ hgs))
              have w4 : Paired (GwAt H4) gvs ws := hgw.mono fun _ _ z => ((z.kt (Same.kt s1)).kt (p1.kt tb1)).kt (Same.kt s4)
              have m4 := s4 _ _ rm'
              refine ⟨_, rfl, gs, rfl, ⟨_, SqL.of g4⟩, tab4 T t0, fun H5 htab => ?_⟩
              have f5 : Fw [T, Tf] H4 H5 := Fw.step tab4 t0 (kp_of_tabbed htab) htab.1
              refine any_list (xs := gvs) (fun i H' => Fw [T, Tf] H4 H' ∧ (ws.take i).any (fun want => fitB want pr.2.room) = false) ⟨f5, rfl⟩ (fun i H' _ p => SqL.of (p.1.lst tab4 g4)) (fun i x H' Kk hF hT hx p => ?_) (fun H' p => ?_)
              · obtain ⟨f6, an⟩ := p
                obtain ⟨want, hw, a9, wt9, z9, gd9, how9, rk9, many9, ln9, rfl, hg9, hwt9⟩ := paired_get w4 hx
                have hg6 : GangT H' a9 wt9 z9 gd9 how9 rk9 many9 ln9 want := ⟨f6.kt tab4 _ _ hg9, f6.kt tab4 _ _ hwt9⟩
                have tk9 : ws.take (i + 1) = ws.take i ++ [want] := by rw [List.take_add_one, hw]; rfl
                refine ⟨rfl, _, rfl, a9, wt9, z9, gd9, how9, rk9, many9, ln9, want, rfl, hg6, ?_⟩
                refine ⟨_, rfl, wt9, pr.1.m, want, pr.2.room, rfl, SqT.of hg6.2, SqT.of (f6.kt tab4 _ _ m4), f6.tabs Tf tf, fun H7 tab7 kp7 => ?_⟩
                have f7 := f6.trans (Fw.step f6.tabs tf kp7 tab7)
                cases hc : fitB want pr.2.room with
                | true =>
                  refine hT H7 ⟨true, rfl, iteF ?_⟩
                  refine no H7 ((Fw.same p1.tabs s4).trans f7) (f7.lst tab4 D4) ?_
                  have : (ws.any fun want => fitB want pr.2.room) = true := List.any_eq_true.mpr ⟨want, List.mem_of_getElem? hw, hc⟩
                  unfold spareP
                  rw [this]
                  simp
                | false =>
                  refine hF H7 ⟨f7, ?_⟩
                  rw [tk9, List.any_append, an]
                  simp [hc]
              · obtain ⟨f6, an⟩ := p
                rw [hgw.length, List.take_length] at an
                refine ⟨false, rfl, iteT ?_⟩
                have f16 := p1.trans ((Fw.same p1.tabs s4).trans f6)
                have D6 := f6.lst tab4 D4
                refine ⟨_, rfl, _, D6, sml (by omega), f16.put tb1 nD, ?_⟩
                rw [upd_same, tk, List.filter_append, show [pr.2].filter (spareP ws) = [pr.2] by simp [spareP, hk, hb, an], List.map_append, List.map_append]
                rfl
          · exact absurd (List.mem_map.mpr ⟨pr, hpm, rfl⟩) z
    · obtain ⟨p1, p2⟩ := pm2
      rw [List.length_map, lts, List.take_length] at p2
      have sn : sortedS ((((L'.map (·.2)).filter (spareP ws)).map (·.name))) = true := by
        have h1 := sorted_pw so
        unfold names at h1
        rw [List.pairwise_map] at h1
        refine ofP ?_
        rw [List.pairwise_map]
        refine List.Pairwise.sublist List.filter_sublist ?_
        rw [List.pairwise_map]
        exact h1
      exact q H2 D _ ((Fw.same tb s1).trans p1) (s1.free nD) p2 sn (((pL.map _).filter _).map _)
end
end My
set_option maxHeartbeats 4000000
namespace My
open PySem PySem.Spec PyProof.Rows L2 GX GxR
abbrev s_scSpr : Stmt := topS 49
abbrev n_scSpr : List Str := ["_law_world", "_law_gangs", "_law_found", "_law_row", "_law_held", "_law_used", "_law_one", "_law_gang_here"]
theorem scSpr : FnScope n_scSpr ["_law_world", "_law_gangs"] (defScope s_scSpr) := ⟨rfl, rfl, rfl, by decide +kernel, rfl, by decide +kernel, by decide +kernel⟩
theorem pairW_app {α β : Type} {R : α → β → Prop} : ∀ {xs : List α} {ys : List β} {xs' : List α} {ys' : List β}, Paired R xs ys → Paired R xs' ys' → Paired R (xs ++ xs') (ys ++ ys')
  | _, _, _, _, .nil, h => h
  | _, _, _, _, .cons r p, h => .cons r (pairW_app p h)
theorem fitN1 : ∀ (xs ys : List Int), fitN xs 1 ys = fitB xs ys
  | [], _ => by unfold fitN fitB; cases ‹List Int› <;> rfl
  | _ :: _, [] => rfl
  | x :: xs, y :: ys => by
    have ih := fitN1 xs ys
    unfold fitN fitB at ih ⊢
    rw [List.zipWith_cons_cons, List.zipWith_cons_cons, List.all_cons, List.all_cons, ih, Int.mul_one]
theorem often1 {want room : List Int} (hx : ∀ x ∈ want, 0 ≤ x) (hy : ∀ y ∈ room, 0 ≤ y) (hl : want.length = room.length) (hne : quots want room ≠ []) : decide (0 < cnt 1 want room) = fitB want room := by
  have h := fit_iffQ (n := 1) hx hy hl hne
  rw [fitN1] at h
  rw [h]
  unfold cnt
  refine decide_eq_decide.mpr ?_
  split <;> omega
/-- gangs, as data -/
structure Gg where
  z : Str
  gd : Str
  how : Str
  rk : Int
  many : Int
  ln : Int
  want : List Int
def GgAt (H : Hp) (v : V) (g : Gg) : Prop := ∃ a wt : Addr, v = .ref a ∧ GangT H a wt g.z g.gd g.how g.rk g.many g.ln g.want
structure GgOk (W : Nat) (g : Gg) : Prop where
  ok : GOk W g.how g.many g.ln g.want
  zo : PySem.PyData.strOk g.z = true
  go : PySem.PyData.strOk g.gd = true
theorem GgAt.kt {H H' : Hp} {v : V} {g : Gg} (k : KTu H H') (h : GgAt H v g) : GgAt H' v g := by
  obtain ⟨a, wt, e, h1, h2⟩ := h
  exact ⟨a, wt, e, k _ _ h1, k _ _ h2⟩
theorem GgAt.gw {H : Hp} {v : V} {g : Gg} (h : GgAt H v g) : GwAt H v g.want := by
  obtain ⟨a, wt, e, h1⟩ := h
  exact ⟨a, wt, _, _, _, _, _, _, e, h1⟩
theorem ggs_gw {H : Hp} {vs : List V} {gs : List Gg} (h : Paired (GgAt H) vs gs) : Paired (GwAt H) vs (gs.map (·.want)) := by
  induction h with
  | nil => exact .nil
  | cons r _ ih => exact .cons r.gw ih
def ggD (g : Gg) : PyData := .tuple [.str g.z, .str g.gd, .int g.rk, .int g.many, .tuple (g.want.map PyData.int), .str g.how, .int g.ln]
theorem ggs_dp {K : PySem.W.Frag} {H : Hp} : ∀ {vs : List V} {gs : List Gg}, Paired (GgAt H) vs gs → DpAll K H vs (gs.map ggD)
  | _, _, .nil => .nil
  | _, _, .cons ⟨a, wt, e, h1, h2⟩ t => by
    subst e
    exact .cons (.tup (SqT.of h1) (.cons (.str _) (.cons (.str _) (.cons (.int _) (.cons (.int _) (.cons (.tup (SqT.of h2) (dp_ints _)) (.cons (.str _) (.cons (.int _) .nil)))))))) (ggs_dp t)
theorem how_ok {how : Str} (h : how ∈ Hows4) : PySem.PyData.strOk how = true := by
  have e : (Hows4.all fun z => PySem.PyData.strOk z) = true := by decide +kernel
  exact List.all_eq_true.mp e how h
theorem ggs_sh {W : Nat} {gs : List Gg} (ok : ∀ g ∈ gs, GgOk W g) : SeqAt.shaped (.list (gs.map ggD)) = true := by
  have flat : ∀ {d : PyData}, PyData.depth d = 0 → PyData.depth d ≤ 1 := fun h => by omega
  refine sh_of (n := 3) (lay_lst fun d hd => ?_) (dep_lst fun d hd => ?_) (by decide)
  · obtain ⟨g, hg, rfl⟩ := List.mem_map.mp hd
    have o := ok g hg
    refine lay_tup fun d hd => ?_
    rcases List.mem_cons.mp hd with rfl | hd
    · exact lay_str o.zo
    rcases List.mem_cons.mp hd with rfl | hd
    · exact lay_str o.go
    rcases List.mem_cons.mp hd with rfl | hd
    · rfl
    rcases List.mem_cons.mp hd with rfl | hd
    · rfl
    rcases List.mem_cons.mp hd with rfl | hd
    · exact room_lay _
    rcases List.mem_cons.mp hd with rfl | hd
    · exact lay_str (how_ok o.ok.hw)
    · rw [List.mem_singleton.mp hd]
      rfl
  · obtain ⟨g, hg, rfl⟩ := List.mem_map.mp hd
    refine dep_tup fun d hd => ?_
    rcases List.mem_cons.mp hd with rfl | hd
    · exact flat (dep0_str _)
    rcases List.mem_cons.mp hd with rfl | hd
    · exact flat (dep0_str _)
    rcases List.mem_cons.mp hd with rfl | hd
    · exact flat (dep0_int _)
    rcases List.mem_cons.mp hd with rfl | hd
    · exact flat (dep0_int _)
    rcases List.mem_cons.mp hd with rfl | hd
    · exact room_dep _
    rcases List.mem_cons.mp hd with rfl | hd
    · exact flat (dep0_str _)
    · rw [List.mem_singleton.mp hd]
      exact flat (dep0_int _)
def entWD (x : Bw) : PyData := .tuple [.str x.key, .int x.b, .int x.e, .tuple (x.am.map PyData.int)]
theorem entW_dp {K : PySem.W.Frag} {H : Hp} : ∀ {vs : List V} {E : List Bw}, Paired (EntW H) vs E → DpAll K H vs (E.map entWD)
  | _, _, .nil => .nil
  | _, _, .cons ⟨a, wt, e, h1, h2⟩ t => by
    subst e
    exact .cons (.tup (SqT.of h1) (.cons (.str _) (.cons (.int _) (.cons (.int _) (.cons (.tup (SqT.of h2) (dp_ints _)) .nil))))) (entW_dp t)
theorem entW_sh {E : List Bw} (ok : ∀ x ∈ E, PySem.PyData.strOk x.key = true) : SeqAt.shaped (.list (E.map entWD)) = true := by
  have flat : ∀ {d : PyData}, PyData.depth d = 0 → PyData.depth d ≤ 1 := fun h => by omega
  refine sh_of (n := 3) (lay_lst fun d hd => ?_) (dep_lst fun d hd => ?_) (by decide)
  · obtain ⟨g, hg, rfl⟩ := List.mem_map.mp hd
    refine lay_tup fun d hd => ?_
    rcases List.mem_cons.mp hd with rfl | hd
    · exact lay_str (ok g hg)
    rcases List.mem_cons.mp hd with rfl | hd
    · rfl
    rcases List.mem_cons.mp hd with rfl | hd
    · rfl
    · rw [List.mem_singleton.mp hd]
      exact room_lay _
  · obtain ⟨g, hg, rfl⟩ := List.mem_map.mp hd
    refine dep_tup fun d hd => ?_
    rcases List.mem_cons.mp hd with rfl | hd
    · exact flat (dep0_str _)
    rcases List.mem_cons.mp hd with rfl | hd
    · exact flat (dep0_int _)
    rcases List.mem_cons.mp hd with rfl | hd
    · exact flat (dep0_int _)
    · rw [List.mem_singleton.mp hd]
      exact room_dep _
theorem eqv_nilM {α : Type} {f : α → PyData} : ∀ (xs : List α), PyData.eqv (.list (xs.map f)) (.list []) = xs.isEmpty
  | [] => rfl
  | _ :: _ => rfl
theorem spare_both {gn : List Str} {W : Nat} {M : List Hm} {E : List Bw} {ks : List Kn} (g : G47 gn W M E ks) {h : Hm} (hm : h ∈ M) (ws : List (List Int)) : spareP ws h = (h.kind.isSome && (ofH h.name E).isEmpty && !(ws.any fun want => fitB want h.room)) := by
  have e := congrArg List.length (g.rel h hm)
  rw [List.length_map, List.length_map] at e
  unfold spareP
  congr 2
  cases h1 : h.bs with
  | nil =>
    rw [h1] at e
    rw [List.eq_nil_of_length_eq_zero (l := ofH h.name E) e.symm]
  | cons b bs =>
    cases h2 : ofH h.name E with
    | nil => rw [h1, h2] at e; cases e
    | cons c cs => rfl
def spWSpr : Sp := fun vs H Q _ => ∃ (D lh le lk gs : Addr) (gn : List Str) (W : Nat) (ws us gvs : List V) (M : List Hm) (E : List Bw) (ks : List Kn) (Gs : List Gg), vs = [.ref D, .ref gs] ∧ WVw H D W lh le lk us E ∧ H lh = some (.lst ws) ∧ Paired (RowW H) ws M ∧ G47 gn W M E ks ∧ KOk W M ∧ E.length ≤ 60 ∧
  H gs = some (.lst gvs) ∧ Paired (GgAt H) gvs Gs ∧ (∀ g ∈ Gs, GgOk W g) ∧ Gs.length ≤ 60 ∧
  ∀ (H' : Hp) (l : Addr) (zs : List Str), Same H H' → H l = none → H' l = some (.lst (zs.map V.str)) → sortedS zs = true → zs.Perm ((M.filter (spareP (Gs.map (·.want)))).map (·.name)) → Q (.ref l) H'
section
variable {P : Program} {w : World} {K : PySem.W.Frag} {mg : Str → Option Value} {base : Heap}
theorem ok_wspr {f fO : Addr} {fd fdO : FuncData} {k : Nat} (F : Fun K "_law_spare" "_law_spare" s_scSpr f fd) (X : Txt mg) (mSorted : mg "sorted" = none)
    (GO : FnOk P w K mg base CX0 k fO fdO ["_law_want_here", "_law_room", "_law_most"] (spWOft K)) (mO : mg "_law_often" = some (.ref fO)) (kO : PySem.W.keepIn K (.ref fO) = true) (bO : L2.Binds K fdO ["_law_want_here", "_law_room", "_law_most"] []) :
    FnOk P w K mg base CX0 (k + 1) f fd ["_law_world", "_law_gangs"] spWSpr := by
  refine F.ok scSpr (fun vs H Q E h => ?_) (fun cdv A outer s H vs Q E hr h => ?_)
  · obtain ⟨D, lh, le, lk, gs, gn, W, ws, us, gvs, M, Es, ks, Gs, rfl, _⟩ := h
    rfl
  · obtain ⟨D, lh, le, lk, gs, gn, W, ws, us, gvs, M, Es, ks, Gs, rfl, wv, hh, rows, g, kok, el, hgs, hgg, gok, gl, q⟩ := h
    refine ⟨_, (pss_cons (ps_set (i := 2) scSpr.nd rfl (.inl rfl) (pe_lst pa_nil))
(C8.pss_cut (ps_for PassesOwn.never rfl (pi_list (pe_dget (hu_of hr) (pv 0) pe_str (fun _ _ => rfl))) (pg_name (i := 3) scSpr.nd rfl (.inr rfl))
  (pss_cons (ps_setLc (i := 4) (own := [("_law_one", 6)]) (g := (gName 6)) rfl scSpr.nd rfl rfl (sw_true rfl rfl rfl (by decide +kernel)) (pi_list (pe_dget (hu_of hr) (pv 0) pe_str (fun _ _ => rfl))) (blkOk_by (own := [("_law_one", 6)]) (N := n_scSpr) (sc := defScope s_scSpr) (by decide +kernel)) (fun _ _ _ _ _ => (pg_name (i := 6) scSpr.nd rfl (.inl rfl))) (fun _ _ _ _ _ => pts_one (pt_cmpR op_eq (pe_ix (r := rIxT K) ix_tup (pv 6) pe_int (fun _ _ => rfl)) (pe_ix (r := rIxT K) ix_tup (pv 3) pe_int (fun _ _ => rfl)) (nomark _))) (fun _ _ _ _ _ => (pv 6)))
  (pss_cons (ps_setLc (i := 5) (own := [("_law_gang_here", 7)]) (g := (gName 7)) rfl scSpr.nd rfl rfl (sw_true rfl rfl rfl (by decide +kernel)) (pi_list (pv 1)) (blkOk_by (own := [("_law_gang_here", 7)]) (N := n_scSpr) (sc := defScope s_scSpr) (by decide +kernel)) (fun _ _ _ _ _ => (pg_name (i := 7) scSpr.nd rfl (.inl rfl))) (fun _ _ _ _ _ => pts_one (pt_cmpR op_gt (pe_call GO hr (by rfl) mO kO bO .nil pass0 (pa_cons (pe_ix (r := rIxT K) ix_tup (pv 7) pe_int (fun _ _ => rfl)) (pa_cons (pe_ix (r := rIxT K) ix_tup (pv 3) pe_int (fun _ _ => rfl)) (pa_cons pe_int pa_nil)))) pe_int (nomark _))) (fun _ _ _ _ _ => (pv 7)))
  (pss_one (ps_if (PW.pt (pw_and (pt_cmpR op_notN (pe_ix ix_tup (pv 3) pe_int (fun _ _ => rfl)) pe_non (nomark _)) (pw_and (pt_cmpR (op_eqD hr.units) (pv 4) (pe_lst pa_nil) (nomark _)) (pw_and1 (pt_cmpR (op_eqD hr.units) (pv 5) (pe_lst pa_nil) (nomark _))))))
    (pss_one (ps_expr (pe_bm PySem.F.plainAttrs_list PySem.F.slot_list_append PySem.F.type_list_append mt_append (pv 2) (pa_cons (pe_ix ix_tup (pv 3) pe_int (fun _ _ => rfl)) pa_nil))))
    pss_nil)))))
(pss_one (ps_ret (pe_callB (SX.cr_sortSk hr.units) (by rfl) mSorted (by decide +kernel) (pa_cons (pv 2) pa_nil)))))), ?_⟩
    have lws : ws.length = M.length := rows.length
    refine ⟨by show 0 ≤ sizeLine; decide, fun lf nlf => ?_⟩
    have s0 := same_upd (o := .lst []) nlf
    have e0 : upd H lf (.lst []) lf = some (.lst []) := upd_same
    generalize upd H lf (.lst []) = H0 at s0 e0 ⊢
    refine ⟨fun σ H' => ∃ y3 y4 y5 : Option V, σ = [some (.ref D), some (.ref gs), some (.ref lf), y3, y4, y5, none, none] ∧ Same H H' ∧ H' lf = some (.lst (((M.filter (spareP (Gs.map (·.want)))).map (·.name)).map V.str)), ?_, fun σ H2 hm => ?_⟩
    · refine ⟨_, rfl, D, .ref lh, rfl, dgetR (Rd.of (wv.same s0).obj) rfl, lh, rfl, ⟨_, SqL.of (s0 _ _ hh)⟩, ?_⟩
      refine for_list (K := K) (xs := ws) (fun j σ H' => ∃ y3 y4 y5 : Option V, σ = [some (.ref D), some (.ref gs), some (.ref lf), y3, y4, y5, none, none] ∧ Same H H' ∧ H' lf = some (.lst ((((M.take j).filter (spareP (Gs.map (·.want)))).map (·.name)).map V.str)))
        ⟨none, none, none, rfl, s0, e0⟩ (fun j σ H' _ p => ?_) (fun j v σ H1 hx p => ?_) (fun σ H1 p => ?_)
      · obtain ⟨_, _, _, _, s1, _⟩ := p
        exact SqL.of (s1 _ _ hh)
      · obtain ⟨y3, y4, y5, rfl, s1, e1⟩ := p
        obtain ⟨h0, hh0, t0, am, rfl, ht0, ham⟩ := paired_get rows hx
        have hmem : h0 ∈ M := List.mem_of_getElem? hh0
        have tk2 : M.take (j + 1) = M.take j ++ [h0] := by rw [List.take_add_one, hh0]; rfl
        have e3 : Same H H1 := s1
        have t1 := s1 _ _ ht0
        have a1 := s1 _ _ ham
        have wv1 := wv.same s1
        refine ⟨_, rfl, D, .ref le, rfl, dgetR (Rd.of wv1.obj) rfl, le, rfl, ⟨_, SqL.of wv1.en⟩, fun D4 nD4 => ?_⟩
        refine lc_list (K := K) (xs := us) (fun j H' => Same H1 H' ∧ ∃ vs : List V, H' D4 = some (.lst vs) ∧ Paired (EntW H1) vs (ofH h0.name (Es.take j))) ⟨same_upd nD4, [], upd_same, .nil⟩ (fun j H' _ p => SqL.of (p.1 _ _ wv1.en)) (fun j v H' hx p => ?_) (fun H2 p => ?_)
        · obtain ⟨p1, vs, p2, p3⟩ := p
          obtain ⟨x0, hx0, tx, ax, rfl, htx, hax⟩ := paired_get wv1.each hx
          have tk3 : ofH h0.name (Es.take (j + 1)) = ofH h0.name (Es.take j) ++ (if x0.key = h0.name then [x0] else []) := by
            rw [List.take_add_one, hx0]
            unfold ofH
            rw [List.filter_append]
            congr 1
            by_cases z : x0.key = h0.name <;> simp [z]
          have l60 : vs.length ≤ 60 := by
            rw [p3.length]
            refine Nat.le_trans (List.length_filter_le _ _) ?_
            rw [List.length_take]
            omega
          refine ⟨rfl, ?_⟩
          refine ⟨_, rfl, tx, _, 0, .str x0.key, rfl, rfl, SqT.of (p1 _ _ htx), rfl, _, rfl, t0, _, 0, .str h0.name, rfl, rfl, SqT.of (p1 _ _ t1), rfl, rfl, _, rfl, ite2 (fun c => ?_) (fun c => ?_)⟩
          · have c' : x0.key = h0.name := by
              have := of_decide_eq_true c
              injection this
            refine ⟨_, rfl, _, p2, sml (by omega), same_putA p1 nD4, _, upd_same, ?_⟩
            rw [tk3, if_pos c']
            exact pairW_app p3 (.cons ⟨tx, ax, rfl, htx, hax⟩ .nil)
          · refine ⟨p1, vs, p2, ?_⟩
            rw [tk3, if_neg (fun z => c (decide_eq_true (by rw [z]))), List.append_nil]
            exact p3
        obtain ⟨s2, v4, d4, p4⟩ := p
        rw [wv1.each.length, List.take_length] at p4
        have t2 := s2 _ _ t1
        have a2 := s2 _ _ a1
        have g2 := s2 _ _ (s1 _ _ hgs)
        have gg2 : Paired (GgAt H2) gvs Gs := hgg.mono fun _ _ z => z.kt (Same.kt (s1.trans s2))
        refine ⟨_, rfl, gs, rfl, ⟨_, SqL.of g2⟩, fun D5 nD5 => ?_⟩
        refine lc_list (K := K) (xs := gvs) (fun j H' => Same H2 H' ∧ ∃ (vs : List V) (Us : List Gg), H' D5 = some (.lst vs) ∧ Paired (GgAt H2) vs Us ∧ (∀ u ∈ Us, u ∈ Gs) ∧ Us.length ≤ j ∧ Us.isEmpty = !((Gs.take j).any fun g => fitB g.want h0.room)) ⟨same_upd nD5, [], [], upd_same, .nil, (fun u hu => by cases hu), Nat.le_refl _, rfl⟩ (fun j H' _ p => SqL.of (p.1 _ _ g2)) (fun j v H' hx p => ?_) (fun H3 p => ?_)
        · obtain ⟨p1, vs, Us, p2, p3, p5, p6, p7⟩ := p
          obtain ⟨g0, hg0, ga, gw, rfl, hga, hgw⟩ := paired_get gg2 hx
          have jl : j < Gs.length := (List.getElem?_eq_some_iff.mp hg0).1
          have gm : g0 ∈ Gs := List.mem_of_getElem? hg0
          have go := (gok g0 gm).ok
          have tk3 : Gs.take (j + 1) = Gs.take j ++ [g0] := by rw [List.take_add_one, hg0]; rfl
          have rm := kok.room h0 hmem
          have wn : ∀ x ∈ g0.want, 0 ≤ x := fun x hx => (go.am x hx).1
          have wp : ∃ x ∈ g0.want, 0 < x := by
            obtain ⟨m, hm, z⟩ := go.nz
            exact ⟨m, hm, by have := wn m hm; omega⟩
          have ll : g0.want.length = h0.room.length := by rw [go.wl, rm.1]
          refine ⟨rfl, ?_⟩
          refine ⟨_, rfl, ga, _, 4, .ref gw, rfl, rfl, SqT.of (p1 _ _ hga), rfl, _, rfl, t0, _, 2, .ref am, rfl, rfl, SqT.of (p1 _ _ t2), rfl, gw, am, 1, g0.want, h0.room, rfl, SqT.of (p1 _ _ hgw), SqT.of (p1 _ _ a2), ll, by rw [go.wl]; have := kok.w8; omega, go.am, rm.2, wp, by decide, by decide, fun H5 s5 => ?_⟩
          have of1 := often1 wn (fun y hy => (rm.2 y hy).1) ll (quots_ne _ _ ll wp)
          have vl : vs.length ≤ 60 := by rw [p3.length]; omega
          refine ⟨_, _, rfl, rfl, _, rfl, ite2 (fun c => ?_) (fun c => ?_)⟩
          · have c' : fitB g0.want h0.room = true := by rw [← of1]; exact c
            refine ⟨_, rfl, _, s5 _ _ p2, sml (by omega), same_putA (p1.trans s5) nD5, _, Us ++ [g0], upd_same, pairW_app p3 (.cons ⟨ga, gw, rfl, hga, hgw⟩ .nil), fun u hu => ?_, ?_, ?_⟩
            · rcases List.mem_append.mp hu with hu | hu
              · exact p5 u hu
              · rw [List.mem_singleton.mp hu]; exact gm
            · rw [List.length_append, List.length_singleton]; omega
            · rw [tk3, List.any_append]
              simp [c']
          · have c' : fitB g0.want h0.room = false := by
              cases e : fitB g0.want h0.room with
              | false => rfl
              | true => rw [← of1] at e; exact absurd e c
            refine ⟨p1.trans s5, vs, Us, s5 _ _ p2, p3, p5, by omega, ?_⟩
            rw [tk3, List.any_append, p7]
            simp [c']
        obtain ⟨s3, v5, Us, d5, p5, u5, ul, ue⟩ := p
        rw [hgg.length, List.take_length] at ue
        have s13 := s2.trans s3
        have d4' := s3 _ _ d4
        have lf3 := s13 _ _ e1
        have t3 := s13 _ _ t1
        have sp := spare_both g hmem (Gs.map (·.want))
        have anyE : ((Gs.map (·.want)).any fun want => fitB want h0.room) = Gs.any fun g => fitB g.want h0.room := by rw [List.any_map]; rfl
        have no : ∀ H4, Same H3 H4 → spareP (Gs.map (·.want)) h0 = false → ∃ y3 y4 y5 : Option V, [some (V.ref D), some (.ref gs), some (.ref lf), some (.ref t0), some (.ref D4), some (.ref D5), none, none] = [some (V.ref D), some (.ref gs), some (.ref lf), y3, y4, y5, none, none] ∧ Same H H4 ∧ H4 lf = some (.lst ((((M.take (j + 1)).filter (spareP (Gs.map (·.want)))).map (·.name)).map V.str)) := fun H4 s4 z => by
          refine ⟨_, _, _, rfl, (s1.trans s13).trans s4, ?_⟩
          rw [tk2, List.filter_append, show [h0].filter (spareP (Gs.map (·.want))) = [] by simp [z], List.append_nil]
          exact s4 _ _ lf3
        have l16 : ((((M.take j).filter (spareP (Gs.map (·.want)))).map (·.name)).map V.str).length ≤ 16 := by
          rw [List.length_map, List.length_map]
          refine Nat.le_trans (List.length_filter_le _ _) ?_
          rw [List.length_take]
          have := kok.few
          omega
        cases hk : h0.kind with
        | none =>
          rw [hk] at t3
          refine ⟨_, rfl, t0, _, 3, .non, rfl, rfl, SqT.of t3, rfl, rfl, false, dnn2.symm, iteF (iteF ?_)⟩
          exact no H3 (Same.refl _) (by rw [sp, hk]; rfl)
        | some kd =>
          rw [hk] at t3
          refine ⟨_, rfl, t0, _, 3, .str kd, rfl, rfl, SqT.of t3, rfl, rfl, true, by rw [decide_eq_false (by intro z; cases z)]; rfl, iteT ?_⟩
          refine ⟨_, rfl, by show 0 ≤ sizeLine; decide, fun l6 n6 => ?_⟩
          have s6 := same_upd (o := .lst []) n6
          have e6 : upd H3 l6 (.lst []) l6 = some (.lst []) := upd_same
          generalize upd H3 l6 (.lst []) = H6 at s6 e6 ⊢
          refine ⟨_, _, .lst (SqL.of (s6 _ _ d4')) (entW_dp (p4.mono fun _ _ z => (z.same s13).same s6)), .lst (SqL.of e6) .nil, entW_sh (fun x hx => ?_), rfl, _, rfl, ite2 (fun c => ?_) (fun c => ?_)⟩
          · obtain ⟨h1, hm1, en⟩ := List.mem_map.mp (g.ek x (List.mem_filter.mp hx).1)
            rw [← en]
            exact (kok.tx h1 hm1).1
          · rw [eqv_nilM] at c
            refine ⟨_, rfl, by show 0 ≤ sizeLine; decide, fun l7 n7 => ?_⟩
            have s7 := same_upd (o := .lst []) n7
            have e7 : upd H6 l7 (.lst []) l7 = some (.lst []) := upd_same
            generalize upd H6 l7 (.lst []) = H7 at s7 e7 ⊢
            refine ⟨_, _, .lst (SqL.of (s7 _ _ (s6 _ _ d5))) (ggs_dp (p5.mono fun _ _ z => z.kt (Same.kt ((s3.trans s6).trans s7)))), .lst (SqL.of e7) .nil, ggs_sh (fun x hx => gok x (u5 x hx)), rfl, _, rfl, ite2 (fun c7 => ?_) (fun c7 => ?_)⟩
            · rw [eqv_nilM, ue] at c7
              have z : spareP (Gs.map (·.want)) h0 = true := by rw [sp, hk, c, anyE, c7]; rfl
              have lf7 := s7 _ _ (s6 _ _ lf3)
              refine ⟨_, rfl, .inl ⟨rfl, _, SqL.of lf7⟩, ?_⟩
              refine ⟨_, rfl, t0, _, 0, .str h0.name, rfl, rfl, SqT.of (s7 _ _ (s6 _ _ t3)), rfl, ?_⟩
              refine ⟨lf, _, .str h0.name, rfl, rfl, lf7, small63 (by omega), ?_⟩
              refine ⟨_, _, _, rfl, same_put (((s1.trans s13).trans s6).trans s7) nlf, ?_⟩
              rw [upd_same, tk2, List.filter_append, show [h0].filter (spareP (Gs.map (·.want))) = [h0] by simp [z], List.map_append, List.map_append]
              rfl
            · rw [eqv_nilM, ue] at c7
              refine no H7 (s6.trans s7) ?_
              rw [sp, hk, anyE]
              cases e : (Gs.any fun g => fitB g.want h0.room) with
              | true => simp
              | false => rw [e] at c7; exact absurd rfl c7
          · rw [eqv_nilM] at c
            refine iteF (no H6 s6 ?_)
            rw [sp, hk]
            cases e : (ofH h0.name Es).isEmpty with
            | true => exact absurd e c
            | false => rfl
      · obtain ⟨y3, y4, y5, rfl, s1, e1⟩ := p
        rw [lws, List.take_length] at e1
        exact ⟨y3, y4, y5, rfl, s1, e1⟩
    · obtain ⟨y3, y4, y5, rfl, s1, e1⟩ := hm
      refine ⟨_, rfl, lf, _, rfl, SqL.of e1, ?_, fun ys p pm so np => q _ p ys (s1.trans (same_upd np)) (s1.free np) upd_same so pm⟩
      rw [List.length_map]
      have := List.length_filter_le (spareP (Gs.map (·.want))) M
      have := kok.few
      omega
end
end My
set_option maxHeartbeats 4000000
namespace My
open PySem PySem.Spec PyProof.Rows L2 GX GxR
abbrev s_scBeh : Stmt := topS 47
abbrev n_scBeh : List Str := ["_law_script", "_law_cells", "_law_k", "_law_cell"]
theorem scBeh : FnScope n_scBeh ["_law_script"] (defScope s_scBeh) := ⟨rfl, rfl, rfl, by decide +kernel, rfl, by decide +kernel, by decide +kernel⟩
def spWBeh (K : PySem.W.Frag) : Sp := fun vs H Q _ => ∃ (a : Addr) (ns : List Int), vs = [.ref a] ∧ SqL K H a (ns.map V.int) ∧ ns.length ≤ 63 ∧
  ∀ (l : Addr) (bs : List Addr) (H' : Hp), Same H H' → H l = none → H' l = some (.lst (bs.map V.ref)) → bs.length = 8 → bs.Nodup → (∀ b ∈ bs, H b = none ∧ b ≠ l ∧ BoxAt H' b 0) → Q (.ref l) H'
theorem sqL_same {K : PySem.W.Frag} {H H' : Hp} {a : Addr} {xs : List V} (h : SqL K H a xs) (s : Same H H') : SqL K H' a xs := by
  rcases h with (h | ⟨o, h⟩) | h
  · exact .inl (.inl (s _ _ h))
  · exact .inl (.inr ⟨o, s _ _ h⟩)
  · exact .inr h
theorem ixN_of {n j : Nat} (hj : j < n) : ixN n (j : Int) = some j := by
  unfold ixN
  rw [if_pos (by omega), if_pos (by omega), Int.toNat_natCast]
theorem cut_ints (ns : List Int) (lo hi : Option Int) : ∃ ms : List Int, cutV (ns.map V.int) lo hi = ms.map V.int ∧ ms.length ≤ ns.length := by
  refine ⟨(ns.drop (HT.sIx ns.length 0 lo)).take (HT.sIx ns.length ns.length hi - HT.sIx ns.length 0 lo), ?_, by rw [List.length_take, List.length_drop]; omega⟩
  unfold cutV
  rw [List.length_map, List.map_take, List.map_drop]
section
variable {P : Program} {w : World} {K : PySem.W.Frag} {mg : Str → Option Value} {base : Heap}
theorem ok_wbeh {f fB : Addr} {fd fdB : FuncData} {k : Nat} (F : Fun K "_law_behind" "_law_behind" s_scBeh f fd) (X : Txt mg) (mEnum : mg "enumerate" = none)
    (GB : FnOk P w K mg base CX0 k fB fdB ["_law_script", "_law_k"] (spBoxM K)) (mB : mg "_law_box" = some (.ref fB)) (kB : PySem.W.keepIn K (.ref fB) = true) (bB : L2.Binds K fdB ["_law_script", "_law_k"] []) :
    FnOk P w K mg base CX0 (k + 1) f fd ["_law_script"] (spWBeh K) := by
  refine F.ok scBeh (fun vs H Q E h => ?_) (fun cdv A outer s H vs Q E hr h => ?_)
  · obtain ⟨a, ns, rfl, _⟩ := h
    rfl
  · obtain ⟨a, ns, rfl, hS, hn, q⟩ := h
    refine ⟨_, (pss_cons (ps_set (i := 1) scBeh.nd rfl (.inl rfl) (pe_slice sl_list (pe_op op_catL (pv 0) (pe_lst (pa_cons pe_int (pa_cons pe_int (pa_cons pe_int (pa_cons pe_int (pa_cons pe_int (pa_cons pe_int (pa_cons pe_int (pa_cons pe_int pa_nil)))))))))) po_none (po_some pe_int)))
(C8.pss_cut (ps_for PassesOwn.never rfl (pi_enum (by rfl) mEnum (pa_cons (pe_slice sl_list (pv 0) (po_some pe_int) (po_some pe_int)) pa_nil)) (pg_tup rfl (pgs_cons (pg_name (i := 2) scBeh.nd rfl (.inl rfl)) (pgs_cons (pg_name (i := 3) scBeh.nd rfl (.inl rfl)) pgs_nil)))
  (pss_one (ps_asg (pe_op op_add (pe_op op_mul (pe_ix ix_list (pv 1) (pe_op op_mod (pv 2) pe_int) (fun _ _ => rfl)) pe_int) (pv 3)) (pg_sub (pv 1) (pe_op op_mod (pv 2) pe_int) set_list))))
(pss_one (ps_ret (pe_lc (own := [("_law_cell", 3)]) (g := (gName 3)) (tt := tYes) rfl scBeh.nd (pi_list (pv 1)) (blkOk_by (own := [("_law_cell", 3)]) (N := n_scBeh) (sc := defScope s_scBeh) (by decide +kernel)) (fun _ _ _ _ _ => (pg_name (i := 3) scBeh.nd rfl (.inl rfl))) (fun _ _ _ _ _ => pts_nil) (fun _ _ _ _ _ => (pe_call GB hr (by rfl) mB kB bB .nil pass0 (pa_cons (pe_lst (pa_cons (pv 3) pa_nil)) (pa_cons pe_int pa_nil))))))))), ?_⟩
    refine ⟨_, rfl, by show 8 ≤ sizeLine; decide, fun l1 n1 => ?_⟩
    have s1 := same_upd (o := .lst [V.int 7, .int 11, .int 13, .int 17, .int 19, .int 23, .int 29, .int 31]) n1
    have e1 : upd H l1 (.lst [V.int 7, .int 11, .int 13, .int 17, .int 19, .int 23, .int 29, .int 31]) l1 = some (.lst [V.int 7, .int 11, .int 13, .int 17, .int 19, .int 23, .int 29, .int 31]) := upd_same
    generalize upd H l1 (.lst [V.int 7, .int 11, .int 13, .int 17, .int 19, .int 23, .int 29, .int 31]) = H1 at s1 e1 ⊢
    refine ⟨a, l1, ns.map V.int, _, rfl, rfl, sqL_same hS s1, SqL.of e1, by rw [List.length_map]; show ns.length + 8 ≤ sizeLine; exact Nat.le_trans (by omega) (show 71 ≤ sizeLine by decide), fun l2 n2 => ?_⟩
    have ec : ∃ cs : List Int, cutV (ns.map V.int ++ [V.int 7, .int 11, .int 13, .int 17, .int 19, .int 23, .int 29, .int 31]) none (some 8) = cs.map V.int ∧ cs.length = 8 := by
      refine ⟨(ns ++ [7, 11, 13, 17, 19, 23, 29, 31]).take 8, ?_, by rw [List.length_take, List.length_append]; show min 8 (ns.length + 8) = 8; omega⟩
      rw [show (some 8 : Option Int) = some ((8 : Nat) : Int) from rfl, cut_take, List.map_take, List.map_append]
      rfl
    obtain ⟨cs, ec, lc⟩ := ec
    have s2 := same_upd (o := .lst (ns.map V.int ++ [V.int 7, .int 11, .int 13, .int 17, .int 19, .int 23, .int 29, .int 31])) n2
    have e2 : upd H1 l2 (.lst (ns.map V.int ++ [V.int 7, .int 11, .int 13, .int 17, .int 19, .int 23, .int 29, .int 31])) l2 = some (.lst (ns.map V.int ++ [V.int 7, .int 11, .int 13, .int 17, .int 19, .int 23, .int 29, .int 31])) := upd_same
    generalize upd H1 l2 (.lst (ns.map V.int ++ [V.int 7, .int 11, .int 13, .int 17, .int 19, .int 23, .int 29, .int 31])) = H2 at s2 e2 ⊢
    refine ⟨_, rfl, l2, _, rfl, SqL.of e2, fun l3 n3 => ?_⟩
    rw [ec]
    have s3 := same_upd (o := .lst (cs.map V.int)) n3
    have e3 : upd H2 l3 (.lst (cs.map V.int)) l3 = some (.lst (cs.map V.int)) := upd_same
    have f3 : H l3 = none := by
      cases e : H l3 with
      | none => rfl
      | some o => have := s2 _ _ (s1 _ _ e); rw [n3] at this; cases this
    have s03 := (s1.trans s2).trans s3
    clear s1 s2 e1 e2 n1 n2
    generalize upd H2 l3 (.lst (cs.map V.int)) = H3 at s3 e3 s03 ⊢
    clear s3 n3
    refine ⟨fun σ H' => ∃ (y2 y3 : Option V) (cs : List Int), σ = [some (.ref a), some (.ref l3), y2, y3] ∧ Same H H' ∧ H' l3 = some (.lst (cs.map V.int)) ∧ cs.length = 8, ?_, fun σ H4 hm => ?_⟩
    · refine ⟨_, rfl, _, rfl, _, rfl, a, _, rfl, sqL_same hS s03, fun l4 n4 => ?_⟩
      obtain ⟨ms, em, lm⟩ := cut_ints ns (some 8) (some 63)
      rw [em]
      have s4 := same_upd (o := .lst (ms.map V.int)) n4
      have e4 : upd H3 l4 (.lst (ms.map V.int)) l4 = some (.lst (ms.map V.int)) := upd_same
      have ne4 : l4 ≠ l3 := fun e => by rw [e, e3] at n4; cases n4
      have f4 : H l4 = none := by
        cases e : H l4 with
        | none => rfl
        | some o => have := s03 _ _ e; rw [n4] at this; cases this
      have s34 := s03.trans s4
      have e34 := s4 _ _ e3
      generalize upd H3 l4 (.lst (ms.map V.int)) = H4 at s4 e4 s34 e34 ⊢
      refine ⟨l4, _, rfl, SqL.of e4, ?_⟩
      refine for_it (walk_enum (K := K) (a := l4) (xs := ms.map V.int)) (fun i σ H' => ∃ (y2 y3 : Option V) (cs : List Int), σ = [some (.ref a), some (.ref l3), y2, y3] ∧ Same H H' ∧ H' l3 = some (.lst (cs.map V.int)) ∧ cs.length = 8 ∧ H' l4 = some (.lst (ms.map V.int)))
        ⟨none, none, cs, rfl, s34, e34, lc, e4⟩ (fun i σ H' _ p => by obtain ⟨_, _, _, _, _, _, _, p4⟩ := p; exact SqL.of p4) (fun i x σ H5 H6 hi p y => ?_) (fun σ H' p => ?_)
      · obtain ⟨y2, y3, ds, rfl, p1, p2, p3, p4⟩ := p
        obtain ⟨T, x1, x2, rfl, nT, rfl, h1, h2⟩ := y
        obtain rfl : V.int (i : Nat) = x1 := Option.some.inj h1
        have h2 : (ms.map V.int)[i]? = some x2 := h2
        rw [List.getElem?_map] at h2
        cases hm : ms[i]? with
        | none => rw [hm] at h2; cases h2
        | some m =>
        rw [hm] at h2
        obtain rfl : V.int m = x2 := Option.some.inj h2
        have sT := same_upd (o := .tup [V.int (i : Nat), V.int m]) nT
        have eT : upd H5 T (.tup [V.int (i : Nat), V.int m]) T = some (.tup [V.int (i : Nat), V.int m]) := upd_same
        have s6 := p1.trans sT
        have p2' := sT _ _ p2
        have p4' := sT _ _ p4
        generalize upd H5 T (.tup [V.int (i : Nat), V.int m]) = H6 at sT eT s6 p2' p4' ⊢
        refine ⟨T, [V.int (i : Nat), V.int m], rfl, SqT.of eT, rfl, .int (i : Nat), [.int m], rfl, .int m, [], rfl, rfl, ?_⟩
        have im : ((i : Int) % 8) = ((i % 8 : Nat) : Int) := by omega
        have li : i % 8 < ds.length := by omega
        obtain ⟨d0, hd0⟩ : ∃ d0, ds[i % 8]? = some d0 := ⟨_, List.getElem?_eq_getElem li⟩
        refine ⟨_, rfl, _, rfl, _, _, rfl, rfl, by omega, l3, ds.map V.int, (i : Int) % 8, .int d0, rfl, rfl, SqL.of p2', by rw [im]; show (ixN (ds.map V.int).length ((i % 8 : Nat) : Int)).bind _ = _; rw [List.length_map, ixN_of li]; show (ds.map V.int)[i % 8]? = _; rw [List.getElem?_map, hd0]; rfl, ?_⟩
        refine ⟨_, 31, rfl, rfl, .inr ⟨by omega, by omega⟩, _, rfl, _, _, rfl, rfl, ?_⟩
        refine ⟨_, rfl, _, rfl, _, _, rfl, rfl, by omega, l3, ds.map V.int, (i : Int) % 8, i % 8, rfl, rfl, p2', by rw [im, List.length_map]; exact ixN_of li, ?_⟩
        refine ⟨_, _, ds.set (i % 8) _, rfl, same_put s6 f3, by rw [upd_same, List.map_set], by rw [List.length_set]; exact p3, by rw [upd_ne ne4]; exact p4'⟩
      · obtain ⟨y2, y3, cs', rfl, p1, p2, p3, p4⟩ := p
        exact ⟨y2, y3, cs', rfl, p1, p2, p3⟩
    · obtain ⟨y2, y3, cs', rfl, p1, p2, p3⟩ := hm
      refine ⟨_, rfl, l3, rfl, ⟨_, SqL.of p2⟩, fun l5 n5 => ?_⟩
      have f5 : H l5 = none := by
        cases e : H l5 with
        | none => rfl
        | some o => have := p1 _ _ e; rw [n5] at this; cases this
      refine lc_list (K := K) (xs := cs'.map V.int) (fun i H' => Same H H' ∧ H' l3 = some (.lst (cs'.map V.int)) ∧ ∃ bs : List Addr, H' l5 = some (.lst (bs.map V.ref)) ∧ bs.length = i ∧ bs.Nodup ∧ ∀ b ∈ bs, H b = none ∧ b ≠ l5 ∧ BoxAt H' b 0)
        ⟨same_put p1 f5, by rw [upd_ne (fun e => by rw [← e, p2] at n5; cases n5)]; exact p2, [], upd_same, rfl, List.nodup_nil, fun b hb => by cases hb⟩ (fun i H' _ p => SqL.of p.2.1) (fun i x H' hx p => ?_) (fun H' p => ?_)
      · obtain ⟨g1, g2, bs, g3, g4, g5, g6⟩ := p
        rw [List.getElem?_map] at hx
        cases hc : cs'[i]? with
        | none => rw [hc] at hx; cases hx
        | some c =>
        rw [hc] at hx
        obtain rfl : V.int c = x := Option.some.inj hx
        refine ⟨rfl, ?_⟩
        refine ⟨_, rfl, by show 1 ≤ sizeLine; decide, fun l6 n6 => ?_⟩
        have s6 := same_upd (o := .lst [V.int c]) n6
        have e6 : upd H' l6 (.lst [V.int c]) l6 = some (.lst [V.int c]) := upd_same
        generalize upd H' l6 (.lst [V.int c]) = H6 at s6 e6 ⊢
        refine ⟨l6, [c], 0, rfl, SqL.of e6, by show 1 ≤ 1000; decide, by decide, fun b xs H7 nb s7 bv eb => ?_⟩
        have g2' := s7 _ _ (s6 _ _ g2)
        have g3' := s7 _ _ (s6 _ _ g3)
        have bn : H' b = none := by
          cases e : H' b with
          | none => rfl
          | some o => have := s6 _ _ e; rw [nb] at this; cases this
        have b0 : H b = none := by
          cases e : H b with
          | none => rfl
          | some o => have := g1 _ _ e; rw [bn] at this; cases this
        have ne5 : b ≠ l5 := fun e => by rw [e, g3] at bn; cases bn
        refine ⟨_, g3', by rw [List.length_map, g4]; exact small1000 (by have := (List.getElem?_eq_some_iff.mp hc).1; omega), same_put ((g1.trans s6).trans s7) f5, by rw [upd_ne (fun e => by rw [← e, p2] at n5; cases n5)]; exact g2', bs ++ [b], by rw [upd_same, List.map_append]; rfl, by rw [List.length_append, g4]; rfl, ?_, fun c' hc' => ?_⟩
        · refine List.nodup_append.mpr ⟨g5, List.nodup_cons.mpr ⟨by simp, List.nodup_nil⟩, fun x hx y hy e => ?_⟩
          rw [List.mem_singleton.mp hy] at e
          obtain ⟨_, _, ys, h1, _⟩ := g6 x hx
          rw [e, bn] at h1
          cases h1
        · rcases List.mem_append.mp hc' with hc' | hc'
          · obtain ⟨h0, h1, h2⟩ := g6 c' hc'
            obtain ⟨ys, h3, h4⟩ := (h2.same s6).same s7
            exact ⟨h0, h1, ys, by rw [upd_ne h1]; exact h3, h4⟩
          · rw [List.mem_singleton.mp hc']
            exact ⟨b0, ne5, xs, by rw [upd_ne ne5]; exact eb, bv⟩
      · obtain ⟨g1, g2, bs, g3, g4, g5, g6⟩ := p
        rw [List.length_map] at g4
        exact q l5 bs H' g1 f5 g3 (by omega) g5 g6
end
end My
set_option maxHeartbeats 4000000
namespace My
open PySem PySem.Spec PyProof.Rows L2 GX GxR
section
variable {CE CH CB e edx hd pd D lh le lk b : Addr} {H0 H1 H H' : Hp} {pps : List (Key × V)} {L0 L L1 : List Hp2} {Ts : List Addr} {M : List Hm} {c : Int} {W : Nat} {ws us kus : List V} {E : List Bw} {ks : List Kn}
theorem fw_kl (t : Tabs Ts H) (f : Fw Ts H H') : KL H H' := fun a o s h => f.obj t h fun ps z => by
  obtain ⟨vs, rfl | rfl | ⟨_, rfl | rfl⟩⟩ := s <;> cases z
theorem KL.l {xs : List V} (k : KL H H') (h : H b = some (.lst xs)) : H' b = some (.lst xs) := k _ _ ⟨_, .inl rfl⟩ h
theorem KL.kt (k : KL H H') : KTu H H' := fun a xs h => k _ _ ⟨_, .inr (.inl rfl)⟩ h
theorem KL.bx (k : KL H H') (h : BoxAt H b c) : BoxAt H' b c := by
  obtain ⟨xs, h1, h2⟩ := h
  exact ⟨xs, k.l h1, h2⟩
theorem S47.tabsW (x : S47 CE CH CB Ts H1 H e edx hd pd D lh le lk pps L W ws M us E kus ks) (f : Fw Ts H H') : S47 CE CH CB Ts H1 H' e edx hd pd D lh le lk pps L W ws M us E kus ks := by
  have nt : ∀ y ∈ Ts, ∀ o, H y = some o → (∀ xs, o ≠ .tup xs) ∧ (∀ q u, o ≠ .frz q u) ∧ ∀ us : List Addr, o ≠ .lst (us.map V.ref) := fun y hy o ho => by
    obtain ⟨ps, g, _⟩ := x.fw.tabs y hy
    rw [g] at ho
    cases ho
    exact ⟨(fun xs z => by cases z), (fun q u z => by cases z), fun us z => by cases z⟩
  have kl := fw_kl x.fw.tabs f
  refine ⟨x.fw.trans f, x.es.kpx f.kp (fun y hy z => ?_) nt, x.fr, x.lv, f.obj x.fw.tabs x.ob (fun ps z => by cases z), x.nf, kl.l x.hh, kl.l x.he, kl.l x.hk, x.rows.mono fun _ _ r => r.kt kl.kt, x.ents.mono fun _ _ r => r.kt kl.kt, x.knds.mono fun _ _ r => r.kt kl.kt, x.s1, x.s2, x.s3, x.n1, x.n2, x.n3, x.n4⟩
  obtain ⟨ps, g, _⟩ := x.fw.tabs y hy
  rcases x.es.kind z with ⟨C, dx, fs, g2⟩ | ⟨kv, g2⟩ <;> · rw [g] at g2; cases g2
/-- what stands in the law's loops: H1 is where the law began, H0 where the estate was seen -/
structure LI8 (CE CH CB : Addr) (Ts : List Addr) (H1 H0 H : Hp) (e edx hd pd D lh le lk : Addr) (pps : List (Key × V)) (L0 L : List Hp2) (W : Nat) (ws us kus : List V) (E : List Bw) (ks : List Kn) : Prop where
  x : S47 CE CH CB Ts H1 H e edx hd pd D lh le lk pps L W ws (L0.map (·.2)) us E kus ks
  eM : L.map (·.2) = L0.map (·.2)
  kl : KL H0 H
theorem LI8.same (s : Same H H') (i : LI8 CE CH CB Ts H1 H0 H e edx hd pd D lh le lk pps L0 L W ws us kus E ks) : LI8 CE CH CB Ts H1 H0 H' e edx hd pd D lh le lk pps L0 L W ws us kus E ks := ⟨i.x.same s, i.eM, i.kl.trans (KL.same s)⟩
theorem LI8.box (tH : Tabs Ts H1) (i : LI8 CE CH CB Ts H1 H0 H e edx hd pd D lh le lk pps L0 L W ws us kus E ks) (B : BoxAt H b c) (k : Kp [b] H H') (f1 : H1 b = none) (f0 : H0 b = none) (nb : b ≠ lh ∧ b ≠ le ∧ b ≠ lk) : LI8 CE CH CB Ts H1 H0 H' e edx hd pd D lh le lk pps L0 L W ws us kus E ks :=
  ⟨i.x.box tH B k f1 nb, i.eM, i.kl.kp k fun x hx o h => by rw [List.mem_singleton.mp hx, f0] at h; cases h⟩
theorem LI8.tabsW (i : LI8 CE CH CB Ts H1 H0 H e edx hd pd D lh le lk pps L0 L W ws us kus E ks) (f : Fw Ts H H') : LI8 CE CH CB Ts H1 H0 H' e edx hd pd D lh le lk pps L0 L W ws us kus E ks := ⟨i.x.tabsW f, i.eM, i.kl.trans (fw_kl i.x.fw.tabs f)⟩
end
end My
set_option maxHeartbeats 8000000
namespace My
open PySem PySem.Spec PyProof.Rows L2 GX GxR
abbrev s_scLaw : Stmt := topS 50
abbrev n_scLaw : List Str := ["_law_script", "_law_world", "_law_estate", "_law_ahead", "_law_box_here", "_law_many", "_law_gangs", "_law_handed", "_law_found", "_law_k"]
theorem scLaw : FnScope n_scLaw ["_law_script"] (defScope s_scLaw) := ⟨rfl, rfl, rfl, by decide +kernel, rfl, by decide +kernel, by decide +kernel⟩
abbrev abc51 : Str := "abcdefghijklm"
def nm51 (k : Nat) : Str := Str.ofString "w" ++ (⟨#[abc51.cps.toList.getD k 0]⟩ : Str)
theorem nm51_ok : ((List.range 13).all fun i => decide (atI abc51.cps.toList (0 + (i : Int)) = some (abc51.cps.toList.getD i 0)) && PySem.PyData.strOk (nm51 i)) = true := by decide +kernel
theorem G47.kok {gn : List Str} {W : Nat} {M : List Hm} {E : List Bw} {ks : List Kn} (g : G47 gn W M E ks) (l : gn.length ≤ 40) : KOk W M :=
  KOk.of g.N g.w8 l (by rw [List.length_map]; have := g.ml; omega) g.G (fun h hh => (g.yr h hh).1) fun h hh => (g.yr h hh).2.1
theorem gui51 : PySem.PyData.strOk "guild" = true := by decide +kernel
theorem names_dp {K : PySem.W.Frag} {H : Hp} : ∀ (zs : List Str), DpAll K H (zs.map V.str) (zs.map PyData.str)
  | [] => .nil
  | _ :: zs => .cons (.str _) (names_dp zs)
theorem names_sh {zs : List Str} (h : ∀ z ∈ zs, PySem.PyData.strOk z = true) : SeqAt.shaped (.list (zs.map PyData.str)) = true :=
  sh_of (n := 1) (lay_lst fun d hd => by obtain ⟨z, hz, rfl⟩ := List.mem_map.mp hd; exact lay_str (h z hz)) (dep_lst fun d hd => by obtain ⟨z, hz, rfl⟩ := List.mem_map.mp hd; exact Nat.le_of_eq (dep0_str _)) (by decide)
theorem Fw.subW {Ts Ts' : List Addr} {H H' : Hp} (t : Tabs Ts H) (i : ∀ x ∈ Ts', x ∈ Ts) (f : Fw Ts' H H') : Fw Ts H H' := by
  refine ⟨f.kp.mono i, fun T hT => ?_⟩
  by_cases z : T ∈ Ts'
  · exact f.tabs T z
  · exact TabG.kp f.kp z (t T hT)
theorem gn47_len : gn47.length ≤ 40 := by decide +kernel
section
variable {P : Program} {w : World} {K : PySem.W.Frag} {mg : Str → Option Value} {base : Heap} {CE CH CB : Addr}
theorem ok_law {f fM fJ fE fT fG fSH fSP T Tf : Addr} {fd fdM fdJ fdE fdT fdG fdSH fdSP : FuncData} {k : Nat} {Ts : List Addr} (F : Fun K "law" "law" s_scLaw f fd) (X : Txt mg) (hT : T ∈ Ts) (hTf : Tf ∈ Ts)
    (GM : FnOk P w K mg base CX0 k fM fdM ["_law_script"] (spWMade K CE CH CB Ts)) (mM : mg "_law_made" = some (.ref fM)) (kM : PySem.W.keepIn K (.ref fM) = true) (bM : L2.Binds K fdM ["_law_script"] [])
    (GJ : FnOk P w K mg base CX0 k fJ fdJ ["_law_estate"] (spWSee K CE CH CB)) (mJ : mg "_law_seen" = some (.ref fJ)) (kJ : PySem.W.keepIn K (.ref fJ) = true) (bJ : L2.Binds K fdJ ["_law_estate"] [])
    (GE : FnOk P w K mg base CX0 k fE fdE ["_law_script"] (spWBeh K)) (mE : mg "_law_behind" = some (.ref fE)) (kE : PySem.W.keepIn K (.ref fE) = true) (bE : L2.Binds K fdE ["_law_script"] [])
    (GT : FnOk P w K mg base CX0 k fT fdT ["_law_box_here", "_law_many"] spTakeW) (mT : mg "_law_take" = some (.ref fT)) (kT : PySem.W.keepIn K (.ref fT) = true) (bT : L2.Binds K fdT ["_law_box_here", "_law_many"] [])
    (GG : FnOk P w K mg base CX0 k fG fdG ["_law_box_here", "_law_name_here", "_law_wares"] spWGng) (mG : mg "_law_gang" = some (.ref fG)) (kG : PySem.W.keepIn K (.ref fG) = true) (bG : L2.Binds K fdG ["_law_box_here", "_law_name_here", "_law_wares"] [])
    (GSH : FnOk P w K mg base CX0 k fSH fdSH ["estate", "gangs"] (spShs CE CH CB T Tf)) (mSH : mg "spare_houses" = some (.ref fSH)) (kSH : PySem.W.keepIn K (.ref fSH) = true) (bSH : L2.Binds K fdSH ["estate", "gangs"] [])
    (GSP : FnOk P w K mg base CX0 k fSP fdSP ["_law_world", "_law_gangs"] spWSpr) (mSP : mg "_law_spare" = some (.ref fSP)) (kSP : PySem.W.keepIn K (.ref fSP) = true) (bSP : L2.Binds K fdSP ["_law_world", "_law_gangs"] []) :
    FnOk P w K mg base CX0 (k + 1) f fd ["_law_script"] (spLaw K Ts) := by
  refine F.ok scLaw (fun vs H Q E h => ?_) (fun cdv A outer s H vs Q E hr h => ?_)
  · obtain ⟨a, ns, rfl, _⟩ := h
    rfl
  · obtain ⟨sa, ns, rfl, hS, hl, tH, q⟩ := h
    refine ⟨_, (pss_cons (ps_asg (pe_call GM hr (by rfl) mM kM bM .nil pass0 (pa_cons (pv 0) pa_nil)) (pg_tup rfl (pgs_cons (pg_name (i := 1) scLaw.nd rfl (.inr rfl)) (pgs_cons (pg_name (i := 2) scLaw.nd rfl (.inl rfl)) pgs_nil))))
(pss_cons (ps_set (i := 3) scLaw.nd rfl (.inl rfl) (pe_call GJ hr (by rfl) mJ kJ bJ .nil pass0 (pa_cons (pv 2) pa_nil)))
(C8.pss_cut (ps_for PassesOwn.never rfl (pi_list (pe_call GE hr (by rfl) mE kE bE .nil pass0 (pa_cons (pv 0) pa_nil))) (pg_name (i := 4) scLaw.nd rfl (.inr rfl))
  (pss_cons (ps_set (i := 5) scLaw.nd rfl (.inl rfl) (pe_ix ix_list (pe_lst (pa_cons (pe_call GT hr (by rfl) mT kT bT .nil pass0 (pa_cons (pv 4) (pa_cons pe_int pa_nil))) (pa_cons (pe_call GT hr (by rfl) mT kT bT .nil pass0 (pa_cons (pv 4) (pa_cons pe_int pa_nil))) pa_nil))) (pe_call GT hr (by rfl) mT kT bT .nil pass0 (pa_cons (pv 4) (pa_cons pe_int pa_nil))) (fun _ _ => rfl)))
  (pss_cons (ps_setLc (i := 6) (own := [("_law_k", 9)]) (g := (gName 9)) (tt := tYes) rfl scLaw.nd rfl rfl (sw_true rfl rfl rfl (by decide +kernel)) (pi_range1 (by rfl) X.range (pa_cons (pv 5) pa_nil)) (blkOk_by (own := [("_law_k", 9)]) (N := n_scLaw) (sc := defScope s_scLaw) (by decide +kernel)) (fun _ _ _ _ _ => (pg_name (i := 9) scLaw.nd rfl (.inl rfl))) (fun _ _ _ _ _ => pts_nil) (fun _ _ _ _ _ => (pe_call GG hr (by rfl) mG kG bG .nil pass0 (pa_cons (pv 4) (pa_cons (pe_op op_add_str pe_str (pe_ix ix_str pe_str (pv 9) (fun _ _ => rfl))) (pa_cons (pe_dget (hu_of hr) (pv 1) pe_str (fun _ _ => rfl)) pa_nil))))))
  (pss_cons (ps_set (i := 7) scLaw.nd rfl (.inl rfl) (pe_callTy call_list_of (by rfl) X.lst bt_list (pa_cons (pv 6) pa_nil)))
  (pss_cons (ps_set (i := 8) scLaw.nd rfl (.inl rfl) (pe_call GSH hr (by rfl) mSH kSH bSH .nil pass0 (pa_cons (pv 2) (pa_cons (pv 7) pa_nil))))
  (C8.pss_cut (ps_if (PW.pt (pw_or (pt_not (pt_val (pe_isi X (by rfl) (by rfl) X.lst bt_list (pv 8)))) (pw_or (pt_cmpR (op_neD hr.units) (pv 8) (pe_call GSP hr (by rfl) mSP kSP bSP .nil pass0 (pa_cons (pv 1) (pa_cons (pv 6) pa_nil))) (nomark _)) (pw_or1 (pt_cmpR (op_neD hr.units) (pv 7) (pv 6) (nomark _))))))
    (pss_one (ps_ret pe_bl))
    pss_nil)
  (pss_cons (ps_expr (pe_bm PySem.F.plainAttrs_list PySem.F.slot_list_append PySem.F.type_list_append mt_append (pv 8) (pa_cons pe_str pa_nil)))
  (pss_one (ps_if (pt_cmpR (op_neD hr.units) (pe_call GSH hr (by rfl) mSH kSH bSH .nil pass0 (pa_cons (pv 2) (pa_cons (pv 6) pa_nil))) (pe_call GSP hr (by rfl) mSP kSP bSP .nil pass0 (pa_cons (pv 1) (pa_cons (pv 6) pa_nil))) (nomark _))
    (pss_one (ps_ret pe_bl))
    pss_nil)))))))))
(pss_one (ps_ret (pe_and (pe_cmpR (op_eqD hr.units) (pe_call GJ hr (by rfl) mJ kJ bJ .nil pass0 (pa_cons (pv 2) pa_nil)) (pv 3) (nomark _)) (pe_one (pe_cmpR (op_eqD hr.units) (pe_call GSH hr (by rfl) mSH kSH bSH .nil pass0 (pa_cons (pv 2) (pa_cons (pe_lst pa_nil) pa_nil))) (pe_call GSP hr (by rfl) mSP kSP bSP .nil pass0 (pa_cons (pv 1) (pa_cons (pe_lst pa_nil) pa_nil))) (nomark _))))))))), ?_⟩
    refine ⟨_, rfl, sa, ns, rfl, hS, hl, tH, fun t e edx hd pd D lh le lk pps L0 W ws us kus Es ks H1 x g el l1 ht => ?_⟩
    refine ⟨t, _, rfl, SqT.of ht, rfl, _, _, rfl, _, _, rfl, rfl, ?_⟩
    have sub : ∀ x ∈ [T, Tf], x ∈ Ts := fun x hx => by
      rcases List.mem_cons.mp hx with rfl | hx
      · exact hT
      · rw [List.mem_singleton.mp hx]; exact hTf
    have lku : kus.length = ks.length := x.knds.length
    have l14 : L0.length ≤ 14 := by have := g.ml; rwa [List.length_map] at this
    have k7 := g.k7
    have kk1 := g.k1
    refine ⟨_, rfl, e, edx, hd, pd, pps, L0, rfl, x.es, fun ah d H2 s2 sd dp => ?_⟩
    have i2 : LI8 CE CH CB Ts H H2 H2 e edx hd pd D lh le lk pps L0 L0 W ws us kus Es ks := ⟨x.same s2, rfl, KL.refl _⟩
    have sh := sd.sh g.N g.G g.okn
    refine ⟨fun σ H' => ∃ (y4 y5 y6 y7 y8 : Option V), σ = [some (.ref sa), some (.ref D), some (.ref e), some (.ref ah), y4, y5, y6, y7, y8, none] ∧ LI8 CE CH CB Ts H H2 H' e edx hd pd D lh le lk pps L0 L0 W ws us kus Es ks, ?_, fun σ H3 hm => ?_⟩
    · refine ⟨_, rfl, sa, ns, rfl, i2.x.fw.seqL tH hS, hl, fun lb bs H3 s3 nl e3 l8 ndb eb => ?_⟩
      refine ⟨lb, rfl, ⟨_, SqL.of e3⟩, ?_⟩
      have f3 : H lb = none := i2.x.fw.free tH nl
      have fb : ∀ b ∈ bs, H b = none ∧ H2 b = none ∧ b ≠ lb ∧ b ≠ lh ∧ b ≠ le ∧ b ≠ lk := fun b hb => by
        obtain ⟨h1, h2, h3⟩ := eb b hb
        refine ⟨i2.x.fw.free tH h1, h1, h2, fun z => ?_, fun z => ?_, fun z => ?_⟩
        · rw [z, i2.x.hh] at h1; cases h1
        · rw [z, i2.x.he] at h1; cases h1
        · rw [z, i2.x.hk] at h1; cases h1
      have i3 := i2.same s3
      refine for_list (K := K) (xs := bs.map V.ref) (fun i σ H' => ∃ (y4 y5 y6 y7 y8 : Option V), σ = [some (.ref sa), some (.ref D), some (.ref e), some (.ref ah), y4, y5, y6, y7, y8, none] ∧ LI8 CE CH CB Ts H H2 H' e edx hd pd D lh le lk pps L0 L0 W ws us kus Es ks ∧ H' lb = some (.lst (bs.map V.ref)) ∧ ∀ b ∈ bs.drop i, BoxAt H' b 0)
        ⟨none, none, none, none, none, rfl, i3, e3, fun b hb => (eb b hb).2.2⟩ (fun i σ H' _ p => ?_) (fun i v σ H4 hx p => ?_) (fun σ H' p => ?_)
      · obtain ⟨_, _, _, _, _, _, _, p1, _⟩ := p
        exact SqL.of p1
      · obtain ⟨y4, y5, y6, y7, y8, rfl, i4, e4, bx⟩ := p
        rw [List.getElem?_map] at hx
        cases hb : bs[i]? with
        | none => rw [hb] at hx; cases hx
        | some b =>
        rw [hb] at hx
        obtain rfl : V.ref b = v := Option.some.inj hx
        have hbm := List.mem_of_getElem? hb
        obtain ⟨fb1, fb2, fb3, nb1⟩ := fb b hbm
        have B4 : BoxAt H4 b 0 := bx b (by
          have li := (List.getElem?_eq_some_iff.mp hb).1
          rw [List.drop_eq_getElem_cons li, (List.getElem?_eq_some_iff.mp hb).2]
          exact List.mem_cons_self)
        have bxo : ∀ b' ∈ bs.drop (i + 1), b' ≠ b ∧ BoxAt H4 b' 0 := fun b' hb' => by
          have li := (List.getElem?_eq_some_iff.mp hb).1
          have hd := List.drop_eq_getElem_cons li
          refine ⟨fun z => ?_, bx b' (by rw [hd]; exact List.mem_cons_of_mem _ hb')⟩
          have nd2 : (bs.drop i).Nodup := (List.drop_sublist i bs).nodup ndb
          rw [hd, (List.getElem?_eq_some_iff.mp hb).2] at nd2
          exact (List.nodup_cons.mp nd2).1 (by rw [← z]; exact hb')
        have lbb : lb ∉ [b] := fun z => fb3 (List.mem_singleton.mp z).symm
        have G0 : MGood ((L0.map (·.2)).map (·.name)) gn47 W (L0.map (·.2)) := g.G
        have kok := g.kok gn47_len
        have w8 := g.w8
        refine ⟨_, rfl, b, _, 4, rfl, B4, by omega, by omega, by omega, fun r1 H5 a1 b1 k5 B5 => ?_⟩
        refine ⟨_, rfl, b, _, 13, rfl, B5, by omega, by omega, by omega, fun r2 H6 a2 b2 k6 B6 => ?_⟩
        have k56 := k5.trans k6
        refine ⟨by show 2 ≤ sizeLine; decide, fun l7 n7 => ?_⟩
        have s7 := same_upd (o := .lst [V.int r1, .int r2]) n7
        have e7 : upd H6 l7 (.lst [V.int r1, .int r2]) l7 = some (.lst [V.int r1, .int r2]) := upd_same
        have lb7 := nb_of B6 n7
        generalize upd H6 l7 (.lst [V.int r1, .int r2]) = H7 at s7 e7 ⊢
        have k57 := k56.trans (Same.kp [b] s7)
        refine ⟨_, rfl, b, _, 2, rfl, B6.same s7, by omega, by omega, by omega, fun r3 H8 a3 b3 k8 B8 => ?_⟩
        have k58 := k57.trans k8
        have e8 := k8 _ _ (fun z => lb7 (List.mem_singleton.mp z)) e7
        obtain ⟨mn, hmn, m12⟩ : ∃ mn : Nat, atI [V.int r1, .int r2] r3 = some (.int (mn : Int)) ∧ mn ≤ 12 := by
          have : r3 = 0 ∨ r3 = 1 := by omega
          rcases this with rfl | rfl
          · exact ⟨r1.toNat, by show some (V.int r1) = _; rw [Int.toNat_of_nonneg a1], by omega⟩
          · exact ⟨r2.toNat, by show some (V.int r2) = _; rw [Int.toNat_of_nonneg a2], by omega⟩
        refine ⟨l7, _, _, .int (mn : Int), rfl, rfl, SqL.of e8, hmn, ?_⟩
        have i8 := i4.box tH B4 k58 fb1 fb2 nb1
        have lb8 := k58 _ _ lbb e4
        have bx8 : ∀ b' ∈ bs.drop (i + 1), BoxAt H8 b' 0 := fun b' hb' => by
          obtain ⟨xs, h1, h2⟩ := (bxo b' hb').2
          exact ⟨xs, k58 _ _ (fun z => (bxo b' hb').1 (List.mem_singleton.mp z)) h1, h2⟩
        have bne : ∀ b' ∈ bs.drop (i + 1), b' ≠ b := fun b' hb' => (bxo b' hb').1
        clear bxo B5 B6 k5 k6 k56 k57 k8 i4 e4 s7 e7 e8 hmn
        have B8' : BoxAt H8 b 3 := B8.le (by omega)
        clear B8
        refine ⟨_, rfl, (mn : Int), rfl, by omega, by omega, fun D6 nD6 => ?_⟩
        rw [Int.toNat_natCast]
        have Db : D6 ≠ b := nb_of B8' nD6
        have Db' : D6 ∉ [b] := fun z => Db (List.mem_singleton.mp z)
        refine lc_range (lo := 0) (n := mn) (fun j H' => Kp [b] H8 H' ∧ BoxAt H' b (3 + 30 * (j : Int)) ∧ ∃ (vs : List V) (Gs : List Gg), H' D6 = some (.lst vs) ∧ Paired (GgAt H') vs Gs ∧ (∀ x ∈ Gs, GgOk W x) ∧ Gs.length = j)
          ⟨Same.kp _ (same_upd nD6), (B8'.same (same_upd nD6)).le (by omega), [], [], upd_same, .nil, (fun _ h => nomatch h), rfl⟩ (fun j H' hj p => ?_) (fun H9 p => ?_)
        · obtain ⟨p1, p2, vs, Gs, p3, p4, p5, p6⟩ := p
          have w51 := List.all_eq_true.mp nm51_ok j (List.mem_range.mpr (by omega))
          rw [Bool.and_eq_true] at w51
          have i9 := i8.box tH B8' p1 fb1 fb2 nb1
          have vl : vs.length ≤ 12 := by rw [p4.length]; omega
          refine ⟨rfl, ?_⟩
          refine ⟨_, rfl, _, rfl, abc51, _, _, rfl, rfl, by decide +kernel, of_decide_eq_true w51.1, _, _, rfl, rfl, by show 1 + 1 ≤ sizeLine; decide, _, rfl, D, .int (W : Int), rfl, dgetR (Rd.of i9.x.ob) rfl, b, _, nm51 j, W, rfl, p2, by omega, g.N.w1, w8, fun g9 wt how rk many ln want H10 k10 B10 ng nw hg go m20 l9 w8b => ?_⟩
          have e10 := k10 _ _ Db' p3
          have kt10 := box_kt p2 k10
          have ktu : KTu H10 (upd H10 D6 (.lst (vs ++ [V.ref g9]))) := lstTu e10
          refine ⟨_, e10, small63 (by omega), kp_put (p1.trans k10) nD6, ?_, vs ++ [V.ref g9], Gs ++ [⟨nm51 j, "guild", how, rk, many, ln, want⟩], upd_same, pairW_app (p4.mono fun _ _ z => (z.kt kt10).kt ktu) (.cons ⟨g9, wt, rfl, ktu _ _ hg.1, ktu _ _ hg.2⟩ .nil), fun x hx => ?_, by rw [List.length_append, p6]; rfl⟩
          · obtain ⟨xs, h1, h2⟩ := B10.le (c' := 3 + 30 * ((j + 1 : Nat) : Int)) (by omega)
            exact ⟨xs, by rw [upd_ne Db.symm]; exact h1, h2⟩
          · rcases List.mem_append.mp hx with hx | hx
            · exact p5 x hx
            · rw [List.mem_singleton.mp hx]
              exact ⟨go, w51.2, gui51⟩
        · obtain ⟨k9, B9, vs, Gs, d9, gg9, gok, gl⟩ := p
          have i9 := i8.box tH B8' k9 fb1 fb2 nb1
          have lb9 := k9 _ _ lbb lb8
          have bx9 : ∀ b' ∈ bs.drop (i + 1), BoxAt H9 b' 0 := fun b' hb' => by
            obtain ⟨xs, h1, h2⟩ := bx8 b' hb'
            exact ⟨xs, k9 _ _ (fun z => bne b' hb' (List.mem_singleton.mp z)) h1, h2⟩
          clear i8 lb8 bx8 k9 B9
          refine ⟨_, rfl, D6, _, rfl, .inl (SqL.of d9), fun l10 n10 => ?_⟩
          have s10 := same_upd (o := .lst vs) n10
          have e10 : upd H9 l10 (.lst vs) l10 = some (.lst vs) := upd_same
          generalize upd H9 l10 (.lst vs) = H10 at s10 e10 ⊢
          have i10 := i9.same s10
          have d10 := s10 _ _ d9
          have gg10 : Paired (GgAt H10) vs Gs := gg9.mono fun _ _ z => z.kt (Same.kt s10)
          have kl10 : KL H9 H10 := KL.same s10
          have tabs10 : Tabs [T, Tf] H10 := fun X hX => i10.x.fw.tabs X (sub X hX)
          refine ⟨_, rfl, _, rfl, _, gn47, W, e, edx, hd, pd, l10, pps, L0, vs, _, rfl, i10.x.es, G0, e10, ggs_gw gg10, tabs10, fun H11 f zs fw11 nf ef so pm => ?_⟩
          have i11 := i10.tabsW (Fw.subW i10.x.fw.tabs sub fw11)
          have kl11 := fw_kl tabs10 fw11
          have d11 := kl11.l d10
          have h11 := kl11.l e10
          have gg11 : Paired (GgAt H11) vs Gs := gg10.mono fun _ _ z => z.kt kl11.kt
          have l60 : Gs.length ≤ 60 := by omega
          have zok : ∀ {ws : List (List Int)} {zs : List Str}, zs.Perm (((L0.map (·.2)).filter (spareP ws)).map (·.name)) → ∀ z ∈ zs, PySem.PyData.strOk z = true := fun {ws zs} pm z hz => by
            obtain ⟨h, hh, en⟩ := List.mem_map.mp (pm.mem_iff.mp hz)
            rw [← en]
            exact (kok.tx h (List.mem_filter.mp hh).1).1
          have zfew : ∀ {ws : List (List Int)} {zs : List Str}, zs.Perm (((L0.map (·.2)).filter (spareP ws)).map (·.name)) → zs.length ≤ 16 := fun {ws zs} pm => by
            rw [pm.length_eq, List.length_map]
            exact Nat.le_trans (List.length_filter_le _ _) (kok.few)
          refine ⟨fun σ H' => σ = [some (.ref sa), some (.ref D), some (.ref e), some (.ref ah), some (.ref b), some (.int (mn : Int)), some (.ref D6), some (.ref l10), some (.ref f), none] ∧ Same H11 H', ?_, fun σ H12 hm => ?_⟩
          · have tI : ∀ {H' : Hp}, Same H11 H' → TyX K H' (.ref f) (.type "list") := fun s => .base (.lst (s _ _ ef))
            refine ⟨_, rfl, _, _, _, _, _, rfl, .ty _, tI (Same.refl _), kit_ty (r := true) (by decide +kernel), true, rfl, iteF ?_⟩
            refine ⟨_, rfl, _, rfl, _, rfl, D, lh, le, lk, D6, gn47, W, ws, us, vs, L0.map (·.2), Es, ks, Gs, rfl, i11.x.wv, i11.x.hh, i11.x.rows, g, kok, by omega, d11, gg11, gok, l60, fun H12 l12 zs2 s12 n12 e12 so2 pm2 => ?_⟩
            obtain rfl := sorted_one (pm.trans pm2.symm) so so2
            have sh2 := names_sh (zok pm)
            refine ⟨_, _, .lst (SqL.of (s12 _ _ ef)) (names_dp zs), .lst (SqL.of e12) (names_dp zs), sh2, sh2, _, rfl, ?_⟩
            rw [eqv_self sh2]
            refine iteF ?_
            have gg12 : Paired (GgAt H12) vs Gs := gg11.mono fun _ _ z => z.kt (Same.kt s12)
            have sh3 := ggs_sh gok
            refine ⟨_, rfl, _, rfl, _, _, .lst (SqL.of (s12 _ _ h11)) (ggs_dp gg12), .lst (SqL.of (s12 _ _ d11)) (ggs_dp gg12), sh3, sh3, _, rfl, ?_⟩
            rw [eqv_self sh3]
            refine iteF ?_
            exact ⟨rfl, s12⟩
          · obtain ⟨rfl, s12⟩ := hm
            have f12 := s12 _ _ ef
            refine ⟨_, rfl, .inl ⟨rfl, _, SqL.of f12⟩, ?_⟩
            refine ⟨f, _, .str "zz", rfl, rfl, f12, small63 (by rw [List.length_map]; have := zfew pm; omega), ?_⟩
            have fw13 : Fw [T, Tf] H10 (upd H12 f (.lst (zs.map V.str ++ [V.str "zz"]))) := Fw.put tabs10 (fw11.then s12) nf
            generalize upd H12 f (.lst (zs.map V.str ++ [V.str "zz"])) = H13 at fw13 ⊢
            have i13 := i10.tabsW (Fw.subW i10.x.fw.tabs sub fw13)
            have kl13 := fw_kl tabs10 fw13
            have d13 := kl13.l d10
            have gg13 : Paired (GgAt H13) vs Gs := gg10.mono fun _ _ z => z.kt kl13.kt
            have tabs13 : Tabs [T, Tf] H13 := fun X hX => i13.x.fw.tabs X (sub X hX)
            refine ⟨_, rfl, _, rfl, _, gn47, W, e, edx, hd, pd, D6, pps, L0, vs, _, rfl, i13.x.es, G0, d13, ggs_gw gg13, tabs13, fun H14 f2 zs2 fw14 nf2 ef2 so2 pm2 => ?_⟩
            have i14 := i13.tabsW (Fw.subW i13.x.fw.tabs sub fw14)
            have kl14 := fw_kl tabs13 fw14
            have gg14 : Paired (GgAt H14) vs Gs := gg13.mono fun _ _ z => z.kt kl14.kt
            refine ⟨_, rfl, _, rfl, D, lh, le, lk, D6, gn47, W, ws, us, vs, L0.map (·.2), Es, ks, Gs, rfl, i14.x.wv, i14.x.hh, i14.x.rows, g, kok, by omega, kl14.l d13, gg14, gok, l60, fun H15 l15 zs3 s15 n15 e15 so3 pm3 => ?_⟩
            obtain rfl := sorted_one (pm2.trans pm3.symm) so2 so3
            have sh4 := names_sh (zok pm2)
            refine ⟨_, _, .lst (SqL.of (s15 _ _ ef2)) (names_dp zs2), .lst (SqL.of e15) (names_dp zs2), sh4, sh4, _, rfl, ?_⟩
            rw [eqv_self sh4]
            refine iteF ?_
            have kl9_15 := ((kl10.trans kl13).trans kl14).trans (KL.same s15)
            exact ⟨_, _, _, _, _, rfl, i14.same s15, kl9_15.l lb9, fun b' hb' => kl9_15.bx (bx9 b' hb')⟩
      · obtain ⟨y4, y5, y6, y7, y8, rfl, p1, _⟩ := p
        exact ⟨y4, y5, y6, y7, y8, rfl, p1⟩
    · obtain ⟨y4, y5, y6, y7, y8, rfl, i3⟩ := hm
      refine ⟨_, rfl, e, edx, hd, pd, pps, L0, rfl, i3.x.es, fun t4 d4 H4 s4 sd4 dp4 => ?_⟩
      rw [i3.eM] at sd4
      obtain rfl := sd4.uniq g.G.good sd
      refine ⟨_, rfl, _, _, dp4, (i3.kl.trans (KL.same s4)).dp _ _ dp, sh, sh, ?_⟩
      rw [eqv_self sh]
      refine ⟨true, rfl, iteT ?_⟩
      have i4 := i3.same s4
      have G0 : MGood ((L0.map (·.2)).map (·.name)) gn47 W (L0.map (·.2)) := g.G
      have kok := g.kok gn47_len
      have tabs4 : Tabs [T, Tf] H4 := fun X hX => i4.x.fw.tabs X (sub X hX)
      refine ⟨_, rfl, by show 0 ≤ sizeLine; decide, fun l5 n5 => ?_⟩
      have s5 := same_upd (o := .lst []) n5
      have e5 : upd H4 l5 (.lst []) l5 = some (.lst []) := upd_same
      generalize upd H4 l5 (.lst []) = H5 at s5 e5 ⊢
      have i5 := i4.same s5
      have tabs5 : Tabs [T, Tf] H5 := fun X hX => i5.x.fw.tabs X (sub X hX)
      refine ⟨_, gn47, W, e, edx, hd, pd, l5, pps, L0, [], _, rfl, i5.x.es, G0, e5, .nil, tabs5, fun H6 f zs fw6 nf ef so pm => ?_⟩
      have i6 := i5.tabsW (Fw.subW i5.x.fw.tabs sub fw6)
      refine ⟨_, rfl, by show 0 ≤ sizeLine; decide, fun l7 n7 => ?_⟩
      have s7 := same_upd (o := .lst []) n7
      have e7 : upd H6 l7 (.lst []) l7 = some (.lst []) := upd_same
      generalize upd H6 l7 (.lst []) = H7 at s7 e7 ⊢
      have i7 := i6.same s7
      refine ⟨D, lh, le, lk, l7, gn47, W, ws, us, [], L0.map (·.2), Es, ks, [], rfl, i7.x.wv, i7.x.hh, i7.x.rows, g, kok, by omega, e7, .nil, (fun _ h => nomatch h), by decide, fun H8 l8 zs2 s8 n8 e8 so2 pm2 => ?_⟩
      obtain rfl := sorted_one (pm.trans pm2.symm) so so2
      have sh2 : SeqAt.shaped (.list (zs.map PyData.str)) = true := names_sh fun z hz => by
        obtain ⟨h, hh, en⟩ := List.mem_map.mp (pm.mem_iff.mp hz)
        rw [← en]
        exact (kok.tx h (List.mem_filter.mp hh).1).1
      refine ⟨_, _, .lst (SqL.of (s8 _ _ (s7 _ _ ef))) (names_dp zs), .lst (SqL.of e8) (names_dp zs), sh2, sh2, ?_⟩
      rw [eqv_self sh2]
      exact q _
end
end My
namespace My
open PySem PySem.Spec PyProof.Rows L2 GX GxR XI
/-- a class whose instances have these fields -/
def clsFB (K : PySem.W.Frag) (C : Addr) (fs : List Str) : Bool := PySem.W.plainGet K C Str.empty && (PySem.W.hasDictIn K C && (PySem.W.plainOver K C && (decide (PySem.W.findIn K (.ref C) "__setattr__" = some (some (.builtin "object.__setattr__"))) && ((fs.all fun n => decide (PySem.W.findIn K (.ref C) n = some none)) && (PySem.W.makesIn K C && PySem.W.keepIn K (.ref C))))))
theorem clsFB_ok {K : PySem.W.Frag} {C : Addr} {fs : List Str} (h : clsFB K C fs = true) : Cls K C ∧ (∀ n ∈ fs, PySem.W.findIn K (.ref C) n = some none) ∧ ∀ f, PySem.W.findIn K (.ref C) "__init__" = some (some (.ref f)) → PySem.W.isFn K (.ref f) = true → Mk K C f := by
  unfold clsFB at h
  simp only [Bool.and_eq_true, decide_eq_true_eq, List.all_eq_true] at h
  obtain ⟨h1, h2, h3, h4, h5, h6, h7⟩ := h
  exact ⟨⟨h1, h2, h3, h4⟩, h5, fun f a b => ⟨h6, a, b, h7⟩⟩
theorem houseB_ok {K : PySem.W.Frag} {C : Addr} (h : clsFB K C ["yard", "kind", "state", "book"] = true) : HCls K C ∧ ∀ f, PySem.W.findIn K (.ref C) "__init__" = some (some (.ref f)) → PySem.W.isFn K (.ref f) = true → Mk K C f := by
  obtain ⟨h1, h2, h3⟩ := clsFB_ok h
  exact ⟨⟨h1, h2 _ (by simp), h2 _ (by simp), h2 _ (by simp), h2 _ (by simp)⟩, h3⟩
theorem estB_ok {K : PySem.W.Frag} {C : Addr} (h : clsFB K C ["houses", "placings"] = true) : ECls K C ∧ ∀ f, PySem.W.findIn K (.ref C) "__init__" = some (some (.ref f)) → PySem.W.isFn K (.ref f) = true → Mk K C f := by
  obtain ⟨h1, h2, h3⟩ := clsFB_ok h
  exact ⟨⟨h1, h2 _ (by simp), h2 _ (by simp)⟩, h3⟩
end My
namespace My
open PySem PySem.Spec PyProof.Rows L2 GX GxR XI
abbrev sI2 : Stmt := methS 15 0
theorem excT_of {P : Program} {w : World} {K : PySem.W.Frag} {mg : Str → Option Value} {base : Heap} {C fI cda cc N : Addr} {nm q file : Str} {bs bm sub : List Value} {sn : List Str} {ab : Bool} {col : Option Bool} {dd od an cdd cld : Option Addr} {k0 k1 k2 k3 k5 : Option Value} {oc kV doc pm ct ccl cl : Value} {osl ccs csl : Array (Option Value)} {vs : Array Value} {tf : Tok} {k : Nat}
    (l : K.lookup C = some (excClassObj nm q C N bs bm true sn sub ab col dd k0 k1 k2 k3 k5 "ValueError.__new__")) (hbm : PySem.HandSPX.refsVE bm = true)
    (lf : K.lookup fI = some ⟨oc, od, .func (PySem.W.ksFn "__init__" "TooMuch.__init__" (defArgs sI2) (defBody sI2) (defScope sI2) .none kV doc pm an (.ref cda) ct cc), osl⟩) (hcd : PySem.W.codeIn K (.ref cda) "TooMuch.__init__" = true)
    (hcode : K.lookup cda = some ⟨ccl, cdd, .fields vs, ccs⟩) (hvs : vs[2]? = some (.str file tf)) (hfile : ((P.main.file : Str) == file) = true) (hcell : K.lookup cc = some ⟨cl, cld, .cell (some (.ref C)), csl⟩)
    (hms : mg "super" = none) (htop : (P.main.scope.names.lookup ("super" : Str)).isSome = false) (hB : ownBK K C fI "time" = true) (g : mg "TooMuch" = some (.ref C)) :
    ExcT P w K mg base k C fI (PySem.W.ksFn "__init__" "TooMuch.__init__" (defArgs sI2) (defBody sI2) (defScope sI2) .none kV doc pm an (.ref cda) ct cc) := by
  unfold ownBK at hB
  simp only [Bool.and_eq_true, decide_eq_true_eq] at hB
  obtain ⟨h1, h2, h3, h4, h5, h6, h7, h8, h9, h10, h11⟩ := hB
  have xf := xfB_ok h6
  have T : OexC K C := ⟨⟨nm, q, N, bs, bm, sn, sub, ab, col, dd, k0, k1, k2, k3, k5, l, hbm⟩, h1, xf.exC, h2, h3⟩
  have hcl : PySem.W.clsIn K C = some { name := nm, bases := bs, mro := .ref C :: bm, ns := N, qualname := q, hasDict := true, slotNames := sn, subclasses := sub, abstract := ab, collection := col, hasDel := false } := by
    unfold PySem.W.clsIn
    rw [l] <;> rfl
  refine ⟨T, h4, h5, ?_, .all (fun us hl => match us, hl with | [_, _, _], _ => rfl), g⟩
  exact init_fn T h7 lf hcd hcode hvs hfile hcell hcl h8 hms h11 h2 h9 h10 htop rfl rfl rfl rfl rfl rfl rfl (by decide +kernel) rfl rfl rfl (by decide +kernel) (by decide +kernel) (by decide +kernel) (fun _ => rfl)
set_option maxHeartbeats 40000000 in
theorem all_mk {l : PySem.W.OpenLaw} {q : Program} {loose : List Str} {mean : ExcName → Option Value} {w : World} {K : PySem.W.Frag} {h : Heap} {mg mb : Str → Option Value} {fa CB CH CE f1 f2 f3 f4 f5 f6 f7 f8 f9 f10 f11 f12 f13 f14 f15 f16 f17 f18 f19 f20 f21 f22 f23 f24 f25 f26 f27 g1 g2 g3 g4 g5 g6 g7 g8 g9 g10 g11 g12 g13 g14 g15 g16 g17 g18 g19 g20 g21 g22 g23 g24 g25 E0 E1 E2 E3 E4 E5 c25 T25 c18 T18 : Addr} (X : K.In h) (Z : PyProof.Rows.Top q loose mean mg mb h) (hfa : mg "law" = some (.ref fa))
    {od1 an1 od2 an2 od3 an3 od4 an4 od5 an5 od6 an6 od7 an7 od8 an8 od9 an9 od10 an10 od11 an11 od12 an12 od13 an13 od14 an14 od15 an15 od16 an16 od17 an17 od18 an18 od19 an19 od20 an20 od21 an21 od22 an22 od23 an23 od24 an24 od25 an25 od26 an26 od27 an27 odM1 anM1 odM2 anM2 odM3 anM3 odM4 anM4 odM5 anM5 odM6 anM6 odM7 anM7 odM8 anM8 odM9 anM9 odM10 anM10 odM11 anM11 odM12 anM12 odM13 anM13 odM14 anM14 odM15 anM15 odM16 anM16 odM17 anM17 odM18 anM18 odM19 anM19 odM20 anM20 odM21 anM21 odM22 anM22 odM23 anM23 odM24 anM24 odM25 anM25 : Option Addr} {sl1 sl2 sl3 sl4 sl5 sl6 sl7 sl8 sl9 sl10 sl11 sl12 sl13 sl14 sl15 sl16 sl17 sl18 sl19 sl20 sl21 sl22 sl23 sl24 sl25 sl26 sl27 slM1 slM2 slM3 slM4 slM5 slM6 slM7 slM8 slM9 slM10 slM11 slM12 slM13 slM14 slM15 slM16 slM17 slM18 slM19 slM20 slM21 slM22 slM23 slM24 slM25 : Array (Option Value)} {oc1 kV1 dc1 pm1 ct1 oc2 kV2 dc2 pm2 ct2 oc3 kV3 dc3 pm3 ct3 oc4 kV4 dc4 pm4 ct4 oc5 kV5 dc5 pm5 ct5 oc6 kV6 dc6 pm6 ct6 oc7 kV7 dc7 pm7 ct7 oc8 kV8 dc8 pm8 ct8 oc9 kV9 dc9 pm9 ct9 oc10 kV10 dc10 pm10 ct10 oc11 kV11 dc11 pm11 ct11 oc12 kV12 dc12 pm12 ct12 oc13 kV13 dc13 pm13 ct13 oc14 kV14 dc14 pm14 ct14 oc15 kV15 dc15 pm15 ct15 oc16 kV16 dc16 pm16 ct16 oc17 kV17 dc17 pm17 ct17 oc18 kV18 dc18 pm18 ct18 oc19 kV19 dc19 pm19 ct19 oc20 kV20 dc20 pm20 ct20 oc21 kV21 dc21 pm21 ct21 oc22 kV22 dc22 pm22 ct22 oc23 kV23 dc23 pm23 ct23 oc24 kV24 dc24 pm24 ct24 oc25 kV25 dc25 pm25 ct25 oc26 kV26 dc26 pm26 ct26 oc27 kV27 dc27 pm27 ct27 ocM1 kVM1 dcM1 pmM1 ctM1 cdM1 ocM2 kVM2 dcM2 pmM2 ctM2 cdM2 ocM3 kVM3 dcM3 pmM3 ctM3 cdM3 ocM4 kVM4 dcM4 pmM4 ctM4 cdM4 ocM5 kVM5 dcM5 pmM5 ctM5 cdM5 ocM6 kVM6 dcM6 pmM6 ctM6 cdM6 ocM7 kVM7 dcM7 pmM7 ctM7 cdM7 ocM8 kVM8 dcM8 pmM8 ctM8 cdM8 ocM9 kVM9 dcM9 pmM9 ctM9 cdM9 ocM10 kVM10 dcM10 pmM10 ctM10 cdM10 ocM11 kVM11 dcM11 pmM11 ctM11 cdM11 ocM12 kVM12 dcM12 pmM12 ctM12 cdM12 ocM13 kVM13 dcM13 pmM13 ctM13 cdM13 ocM14 kVM14 dcM14 pmM14 ctM14 cdM14 ocM15 kVM15 dcM15 pmM15 ctM15 cdM15 ocM16 kVM16 dcM16 pmM16 ctM16 cdM16 ocM17 kVM17 dcM17 pmM17 ctM17 cdM17 ocM18 kVM18 dcM18 pmM18 ctM18 cdM18 ocM19 kVM19 dcM19 pmM19 ctM19 cdM19 ocM20 kVM20 dcM20 pmM20 ctM20 cdM20 ocM21 kVM21 dcM21 pmM21 ctM21 cdM21 ocM22 kVM22 dcM22 pmM22 ctM22 cdM22 ocM23 kVM23 dcM23 pmM23 ctM23 cdM23 ocM24 kVM24 dcM24 pmM24 ctM24 cdM24 ocM25 kVM25 dcM25 pmM25 ctM25 cdM25 cd1 cd2 cd3 cd4 cd5 cd6 cd7 cd8 cd9 cd10 cd11 cd12 cd13 cd14 cd15 cd16 cd17 cd19 cd20 cd21 cd22 cd23 cd24 cd26 cd27 : Value} {tk1 tk2 tk3 : Tok} {ec25 : Value} {ed25 : Option Addr} {vs25 : Array Value} {es25 : Array (Option Value)} {ec18 : Value} {ed18 : Option Addr} {vs18 : Array Value} {es18 : Array (Option Value)}
    {fIx2 cdax2 ccx2 Nx2 : Addr} {nmx2 qx2 filex2 : Str} {bsx2 bmx2 subx2 : List Value} {snx2 : List Str} {abx2 : Bool} {colx2 : Option Bool} {ddx2 odx2 anx2 cddx2 cldx2 : Option Addr} {k0x2 k1x2 k2x2 k3x2 k5x2 : Option Value} {ocx2 kVx2 docx2 pmx2 ctx2 cclx2 clx2 : Value} {oslx2 ccsx2 cslx2 : Array (Option Value)} {vsx2 : Array Value} {tfx2 : Tok}
    (a1 : PySem.W.nsIn K mainGlobals "_law_box" = some (some (.ref f1))) (l1 : K.lookup f1 = some ⟨oc1, od1, .func (PySem.W.fnOf "_law_box" "_law_box" (defArgs sBox) (defBody sBox) (defScope sBox) .none kV1 dc1 pm1 an1 cd1 ct1), sl1⟩) (e1 : PySem.W.codeIn K cd1 "_law_box" = true) (k1 : PySem.W.keepIn K (.ref f1) = true)
    (a2 : PySem.W.nsIn K mainGlobals "_law_take" = some (some (.ref f2))) (l2 : K.lookup f2 = some ⟨oc2, od2, .func (PySem.W.fnOf "_law_take" "_law_take" (defArgs sTake) (defBody sTake) (defScope sTake) .none kV2 dc2 pm2 an2 cd2 ct2), sl2⟩) (e2 : PySem.W.codeIn K cd2 "_law_take" = true) (k2 : PySem.W.keepIn K (.ref f2) = true)
    (a3 : PySem.W.nsIn K mainGlobals "_law_name" = some (some (.ref f3))) (l3 : K.lookup f3 = some ⟨oc3, od3, .func (PySem.W.fnOf "_law_name" "_law_name" (defArgs s_scNam) (defBody s_scNam) (defScope s_scNam) .none kV3 dc3 pm3 an3 cd3 ct3), sl3⟩) (e3 : PySem.W.codeIn K cd3 "_law_name" = true) (k3 : PySem.W.keepIn K (.ref f3) = true)
    (a4 : PySem.W.nsIn K mainGlobals "_law_amount" = some (some (.ref f4))) (l4 : K.lookup f4 = some ⟨oc4, od4, .func (PySem.W.fnOf "_law_amount" "_law_amount" (defArgs s_scAmt) (defBody s_scAmt) (defScope s_scAmt) .none kV4 dc4 pm4 an4 cd4 ct4), sl4⟩) (e4 : PySem.W.codeIn K cd4 "_law_amount" = true) (k4 : PySem.W.keepIn K (.ref f4) = true)
    (a5 : PySem.W.nsIn K mainGlobals "_law_kinds" = some (some (.ref f5))) (l5 : K.lookup f5 = some ⟨oc5, od5, .func (PySem.W.fnOf "_law_kinds" "_law_kinds" (defArgs s_scKnd) (defBody s_scKnd) (defScope s_scKnd) .none kV5 dc5 pm5 an5 cd5 ct5), sl5⟩) (e5 : PySem.W.codeIn K cd5 "_law_kinds" = true) (k5 : PySem.W.keepIn K (.ref f5) = true)
    (a6 : PySem.W.nsIn K mainGlobals "_law_house" = some (some (.ref f6))) (l6 : K.lookup f6 = some ⟨oc6, od6, .func (PySem.W.fnOf "_law_house" "_law_house" (defArgs s_scHou) (defBody s_scHou) (defScope s_scHou) .none kV6 dc6 pm6 an6 cd6 ct6), sl6⟩) (e6 : PySem.W.codeIn K cd6 "_law_house" = true) (k6 : PySem.W.keepIn K (.ref f6) = true)
    (a7 : PySem.W.nsIn K mainGlobals "_law_want" = some (some (.ref f7))) (l7 : K.lookup f7 = some ⟨oc7, od7, .func (PySem.W.fnOf "_law_want" "_law_want" (defArgs s_scWnt) (defBody s_scWnt) (defScope s_scWnt) .none kV7 dc7 pm7 an7 cd7 ct7), sl7⟩) (e7 : PySem.W.codeIn K cd7 "_law_want" = true) (k7 : PySem.W.keepIn K (.ref f7) = true)
    (a8 : PySem.W.nsIn K mainGlobals "_law_gang" = some (some (.ref f8))) (l8 : K.lookup f8 = some ⟨oc8, od8, .func (PySem.W.fnOf "_law_gang" "_law_gang" (defArgs s_scGng) (defBody s_scGng) (defScope s_scGng) .none kV8 dc8 pm8 an8 cd8 ct8), sl8⟩) (e8 : PySem.W.codeIn K cd8 "_law_gang" = true) (k8 : PySem.W.keepIn K (.ref f8) = true)
    (a9 : PySem.W.nsIn K mainGlobals "_law_load" = some (some (.ref f9))) (l9 : K.lookup f9 = some ⟨oc9, od9, .func (PySem.W.fnOf "_law_load" "_law_load" (defArgs s_scLod) (defBody s_scLod) (defScope s_scLod) .none kV9 dc9 pm9 an9 cd9 ct9), sl9⟩) (e9 : PySem.W.codeIn K cd9 "_law_load" = true) (k9 : PySem.W.keepIn K (.ref f9) = true)
    (a10 : PySem.W.nsIn K mainGlobals "_law_left" = some (some (.ref f10))) (l10 : K.lookup f10 = some ⟨oc10, od10, .func (PySem.W.fnOf "_law_left" "_law_left" (defArgs s_scLef) (defBody s_scLef) (defScope s_scLef) .none kV10 dc10 pm10 an10 cd10 ct10), sl10⟩) (e10 : PySem.W.codeIn K cd10 "_law_left" = true) (k10 : PySem.W.keepIn K (.ref f10) = true)
    (a11 : PySem.W.nsIn K mainGlobals "_law_often" = some (some (.ref f11))) (l11 : K.lookup f11 = some ⟨oc11, od11, .func (PySem.W.fnOf "_law_often" "_law_often" (defArgs s_scOft) (defBody s_scOft) (defScope s_scOft) .none kV11 dc11 pm11 an11 cd11 ct11), sl11⟩) (e11 : PySem.W.codeIn K cd11 "_law_often" = true) (k11 : PySem.W.keepIn K (.ref f11) = true)
    (a12 : PySem.W.nsIn K mainGlobals "amount_times" = some (some (.ref f12))) (l12 : K.lookup f12 = some ⟨oc12, od12, .func (PySem.W.fnOf "amount_times" "amount_times" (defArgs s_scTimes) (defBody s_scTimes) (defScope s_scTimes) .none kV12 dc12 pm12 an12 cd12 ct12), sl12⟩) (e12 : PySem.W.codeIn K cd12 "amount_times" = true) (k12 : PySem.W.keepIn K (.ref f12) = true)
    (a13 : PySem.W.nsIn K mainGlobals "nothing_of" = some (some (.ref f13))) (l13 : K.lookup f13 = some ⟨oc13, od13, .func (PySem.W.fnOf "nothing_of" "nothing_of" (defArgs s_scNothing) (defBody s_scNothing) (defScope s_scNothing) .none kV13 dc13 pm13 an13 cd13 ct13), sl13⟩) (e13 : PySem.W.codeIn K cd13 "nothing_of" = true) (k13 : PySem.W.keepIn K (.ref f13) = true)
    (a14 : PySem.W.nsIn K mainGlobals "turns_of" = some (some (.ref f14))) (l14 : K.lookup f14 = some ⟨oc14, od14, .func (PySem.W.fnOf "turns_of" "turns_of" (defArgs s_scTurns) (defBody s_scTurns) (defScope s_scTurns) .none kV14 dc14 pm14 an14 cd14 ct14), sl14⟩) (e14 : PySem.W.codeIn K cd14 "turns_of" = true) (k14 : PySem.W.keepIn K (.ref f14) = true)
    (a15 : PySem.W.nsIn K mainGlobals "amount_sum" = some (some (.ref f15))) (l15 : K.lookup f15 = some ⟨oc15, od15, .func (PySem.W.fnOf "amount_sum" "amount_sum" (defArgs s_scSum) (defBody s_scSum) (defScope s_scSum) .none kV15 dc15 pm15 an15 cd15 ct15), sl15⟩) (e15 : PySem.W.codeIn K cd15 "amount_sum" = true) (k15 : PySem.W.keepIn K (.ref f15) = true)
    (a16 : PySem.W.nsIn K mainGlobals "amount_less" = some (some (.ref f16))) (l16 : K.lookup f16 = some ⟨oc16, od16, .func (PySem.W.fnOf "amount_less" "amount_less" (defArgs s_scLess) (defBody s_scLess) (defScope s_scLess) .none kV16 dc16 pm16 an16 cd16 ct16), sl16⟩) (e16 : PySem.W.codeIn K cd16 "amount_less" = true) (k16 : PySem.W.keepIn K (.ref f16) = true)
    (a17 : PySem.W.nsIn K mainGlobals "loads_of" = some (some (.ref f17))) (l17 : K.lookup f17 = some ⟨oc17, od17, .func (PySem.W.fnOf "loads_of" "loads_of" (defArgs s_scLoads) (defBody s_scLoads) (defScope s_scLoads) .none kV17 dc17 pm17 an17 cd17 ct17), sl17⟩) (e17 : PySem.W.codeIn K cd17 "loads_of" = true) (k17 : PySem.W.keepIn K (.ref f17) = true)
    (a18 : PySem.W.nsIn K mainGlobals "amount_fits" = some (some (.ref f18))) (l18 : K.lookup f18 = some ⟨oc18, od18, .func (PySem.W.fnOf "amount_fits" "amount_fits" (defArgs s_scFits) (defBody s_scFits) (defScope s_scFits) .none kV18 dc18 pm18 an18 (.ref c18) ct18), sl18⟩) (e18 : PySem.W.codeIn K (.ref c18) "amount_fits" = true) (k18 : PySem.W.keepIn K (.ref f18) = true)
    (u18 : K.lookup c18 = some ⟨ec18, ed18, .fields vs18, es18⟩) (v18 : vs18[11]? = some (.ref T18)) (n18 : K.lookup T18 = none) (r18 : ((recsOf q).any fun e => e.name == ("amount_fits" : Str)) = true)
    (a19 : PySem.W.nsIn K mainGlobals "first_over" = some (some (.ref f19))) (l19 : K.lookup f19 = some ⟨oc19, od19, .func (PySem.W.fnOf "first_over" "first_over" (defArgs s_scFirst) (defBody s_scFirst) (defScope s_scFirst) .none kV19 dc19 pm19 an19 cd19 ct19), sl19⟩) (e19 : PySem.W.codeIn K cd19 "first_over" = true) (k19 : PySem.W.keepIn K (.ref f19) = true)
    (a20 : PySem.W.nsIn K mainGlobals "_law_booked" = some (some (.ref f20))) (l20 : K.lookup f20 = some ⟨oc20, od20, .func (PySem.W.fnOf "_law_booked" "_law_booked" (defArgs s_scBkW) (defBody s_scBkW) (defScope s_scBkW) .none kV20 dc20 pm20 an20 cd20 ct20), sl20⟩) (e20 : PySem.W.codeIn K cd20 "_law_booked" = true) (k20 : PySem.W.keepIn K (.ref f20) = true)
    (a21 : PySem.W.nsIn K mainGlobals "_law_made" = some (some (.ref f21))) (l21 : K.lookup f21 = some ⟨oc21, od21, .func (PySem.W.fnOf "_law_made" "_law_made" (defArgs s_scMad) (defBody s_scMad) (defScope s_scMad) .none kV21 dc21 pm21 an21 cd21 ct21), sl21⟩) (e21 : PySem.W.codeIn K cd21 "_law_made" = true) (k21 : PySem.W.keepIn K (.ref f21) = true)
    (a22 : PySem.W.nsIn K mainGlobals "_law_seen" = some (some (.ref f22))) (l22 : K.lookup f22 = some ⟨oc22, od22, .func (PySem.W.fnOf "_law_seen" "_law_seen" (defArgs s_scSee) (defBody s_scSee) (defScope s_scSee) .none kV22 dc22 pm22 an22 cd22 ct22), sl22⟩) (e22 : PySem.W.codeIn K cd22 "_law_seen" = true) (k22 : PySem.W.keepIn K (.ref f22) = true)
    (a23 : PySem.W.nsIn K mainGlobals "_law_behind" = some (some (.ref f23))) (l23 : K.lookup f23 = some ⟨oc23, od23, .func (PySem.W.fnOf "_law_behind" "_law_behind" (defArgs s_scBeh) (defBody s_scBeh) (defScope s_scBeh) .none kV23 dc23 pm23 an23 cd23 ct23), sl23⟩) (e23 : PySem.W.codeIn K cd23 "_law_behind" = true) (k23 : PySem.W.keepIn K (.ref f23) = true)
    (a24 : PySem.W.nsIn K mainGlobals "want_of" = some (some (.ref f24))) (l24 : K.lookup f24 = some ⟨oc24, od24, .func (PySem.W.fnOf "want_of" "want_of" (defArgs s_scWOf) (defBody s_scWOf) (defScope s_scWOf) .none kV24 dc24 pm24 an24 cd24 ct24), sl24⟩) (e24 : PySem.W.codeIn K cd24 "want_of" = true) (k24 : PySem.W.keepIn K (.ref f24) = true)
    (a25 : PySem.W.nsIn K mainGlobals "spare_houses" = some (some (.ref f25))) (l25 : K.lookup f25 = some ⟨oc25, od25, .func (PySem.W.fnOf "spare_houses" "spare_houses" (defArgs s_scShs) (defBody s_scShs) (defScope s_scShs) .none kV25 dc25 pm25 an25 (.ref c25) ct25), sl25⟩) (e25 : PySem.W.codeIn K (.ref c25) "spare_houses" = true) (k25 : PySem.W.keepIn K (.ref f25) = true)
    (u25 : K.lookup c25 = some ⟨ec25, ed25, .fields vs25, es25⟩) (v25 : vs25[11]? = some (.ref T25)) (n25 : K.lookup T25 = none) (r25 : ((recsOf q).any fun e => e.name == ("spare_houses" : Str)) = true)
    (a26 : PySem.W.nsIn K mainGlobals "_law_spare" = some (some (.ref f26))) (l26 : K.lookup f26 = some ⟨oc26, od26, .func (PySem.W.fnOf "_law_spare" "_law_spare" (defArgs s_scSpr) (defBody s_scSpr) (defScope s_scSpr) .none kV26 dc26 pm26 an26 cd26 ct26), sl26⟩) (e26 : PySem.W.codeIn K cd26 "_law_spare" = true) (k26 : PySem.W.keepIn K (.ref f26) = true)
    (a27 : PySem.W.nsIn K mainGlobals "law" = some (some (.ref f27))) (l27 : K.lookup f27 = some ⟨oc27, od27, .func (PySem.W.fnOf "law" "law" (defArgs s_scLaw) (defBody s_scLaw) (defScope s_scLaw) .none kV27 dc27 pm27 an27 cd27 ct27), sl27⟩) (e27 : PySem.W.codeIn K cd27 "law" = true) (k27 : PySem.W.keepIn K (.ref f27) = true)
    (z1 : PySem.W.nsIn K mainGlobals "len" = some none)
    (z2 : PySem.W.nsIn K mainGlobals "abs" = some none)
    (z3 : PySem.W.nsIn K mainGlobals "isinstance" = some none)
    (z4 : PySem.W.nsIn K mainGlobals "list" = some none)
    (z5 : PySem.W.nsIn K mainGlobals "tuple" = some none)
    (z6 : PySem.W.nsIn K mainGlobals "zip" = some none)
    (z7 : PySem.W.nsIn K mainGlobals "all" = some none)
    (z8 : PySem.W.nsIn K mainGlobals "str" = some none)
    (z9 : PySem.W.nsIn K mainGlobals "int" = some none)
    (z10 : PySem.W.nsIn K mainGlobals "bool" = some none)
    (z11 : PySem.W.nsIn K mainGlobals "max" = some none)
    (z12 : PySem.W.nsIn K mainGlobals "min" = some none)
    (z13 : PySem.W.nsIn K mainGlobals "range" = some none)
    (z14 : PySem.W.nsIn K mainGlobals "sum" = some none)
    (z15 : PySem.W.nsIn K mainGlobals "dict" = some none)
    (z16 : PySem.W.nsIn K mainGlobals "sorted" = some none)
    (z17 : PySem.W.nsIn K mainGlobals "enumerate" = some none)
    (z18 : PySem.W.nsIn K mainGlobals "any" = some none)
    (z19 : PySem.W.nsIn K mainGlobals "super" = some none)
    (y1 : PySem.W.nsIn K mainGlobals "ENDS" = some (some (.int 0 tk1)))
    (y2 : PySem.W.nsIn K mainGlobals "BEGINS" = some (some (.int 1 tk2)))
    (y3 : PySem.W.nsIn K mainGlobals "OPEN" = some (some (.str "open" tk3)))
    (x0 : PySem.W.nsIn K mainGlobals "Taken" = some (some (.ref E0)))
    (x1 : PySem.W.nsIn K mainGlobals "NoHouse" = some (some (.ref E1)))
    (x2 : PySem.W.nsIn K mainGlobals "NoGang" = some (some (.ref E2)))
    (x3 : PySem.W.nsIn K mainGlobals "TooMuch" = some (some (.ref E3)))
    (x4 : PySem.W.nsIn K mainGlobals "HallError" = some (some (.ref E4)))
    (x5 : PySem.W.nsIn K mainGlobals "NoKey" = some (some (.ref E5)))
    (xT : (l.prog.main.scope.names.lookup ("super" : Str)).isSome = false)
    (hR : refsEB K [E0, E1, E2, E3, E4] = true)
    (h0 : excPB K E0 = true)
    (h1 : excPB K E1 = true)
    (h2 : excPB K E2 = true)
    (h5 : excPB K E5 = true)
    (hN : PySem.W.kitOne K (.type "NoneType") (.ref E1) = some false)
    (la2 : K.lookup E3 = some (excClassObj nmx2 qx2 E3 Nx2 bsx2 bmx2 true snx2 subx2 abx2 colx2 ddx2 k0x2 k1x2 k2x2 k3x2 k5x2 "ValueError.__new__"))
    (lb2 : PySem.HandSPX.refsVE bmx2 = true)
    (ii2 : PySem.W.findIn K (.ref E3) "__init__" = some (some (.ref fIx2)))
    (lc2 : K.lookup fIx2 = some ⟨ocx2, odx2, .func (PySem.W.ksFn "__init__" "TooMuch.__init__" (defArgs sI2) (defBody sI2) (defScope sI2) .none kVx2 docx2 pmx2 anx2 (.ref cdax2) ctx2 ccx2), oslx2⟩)
    (ld2 : PySem.W.codeIn K (.ref cdax2) "TooMuch.__init__" = true)
    (le2 : K.lookup cdax2 = some ⟨cclx2, cddx2, .fields vsx2, ccsx2⟩)
    (lg2 : vsx2[2]? = some (.str filex2 tfx2))
    (lh2 : ((l.prog.main.file : Str) == filex2) = true)
    (li2 : K.lookup ccx2 = some ⟨clx2, cldx2, .cell (some (.ref E3)), cslx2⟩)
    (lj2 : ownBK K E3 fIx2 "time" = true)
    (xCB : PySem.W.nsIn K mainGlobals "Book" = some (some (.ref CB)))
    (xCH : PySem.W.nsIn K mainGlobals "House" = some (some (.ref CH)))
    (xCE : PySem.W.nsIn K mainGlobals "Estate" = some (some (.ref CE)))
    (hB : bookB K CB = true)
    (hH : clsFB K CH ["yard", "kind", "state", "book"] = true)
    (hE : clsFB K CE ["houses", "placings"] = true)
    (aM1 : PySem.W.findIn K (.ref CE) "__init__" = some (some (.ref g1))) (lM1 : K.lookup g1 = some ⟨ocM1, odM1, .func (PySem.W.fnOf "__init__" "Estate.__init__" (defArgs s_scEInit) (defBody s_scEInit) (defScope s_scEInit) .none kVM1 dcM1 pmM1 anM1 cdM1 ctM1), slM1⟩) (eM1 : PySem.W.codeIn K cdM1 "Estate.__init__" = true) (kM1 : PySem.W.keepIn K (.ref g1) = true) (nM1 : PySem.W.isFn K (.ref g1) = true)
    (aM2 : PySem.W.findIn K (.ref CE) "is_booked" = some (some (.ref g2))) (lM2 : K.lookup g2 = some ⟨ocM2, odM2, .func (PySem.W.fnOf "is_booked" "Estate.is_booked" (defArgs s_scIsB) (defBody s_scIsB) (defScope s_scIsB) .none kVM2 dcM2 pmM2 anM2 cdM2 ctM2), slM2⟩) (eM2 : PySem.W.codeIn K cdM2 "Estate.is_booked" = true) (kM2 : PySem.W.keepIn K (.ref g2) = true) (nM2 : PySem.W.isFn K (.ref g2) = true)
    (aM3 : PySem.W.findIn K (.ref CE) "house_of" = some (some (.ref g3))) (lM3 : K.lookup g3 = some ⟨ocM3, odM3, .func (PySem.W.fnOf "house_of" "Estate.house_of" (defArgs s_scHOf) (defBody s_scHOf) (defScope s_scHOf) .none kVM3 dcM3 pmM3 anM3 cdM3 ctM3), slM3⟩) (eM3 : PySem.W.codeIn K cdM3 "Estate.house_of" = true) (kM3 : PySem.W.keepIn K (.ref g3) = true) (nM3 : PySem.W.isFn K (.ref g3) = true)
    (aM4 : PySem.W.findIn K (.ref CB) "__init__" = some (some (.ref g4))) (lM4 : K.lookup g4 = some ⟨ocM4, odM4, .func (PySem.W.fnOf "__init__" "Book.__init__" (defArgs s_scInit) (defBody s_scInit) (defScope s_scInit) .none kVM4 dcM4 pmM4 anM4 cdM4 ctM4), slM4⟩) (eM4 : PySem.W.codeIn K cdM4 "Book.__init__" = true) (kM4 : PySem.W.keepIn K (.ref g4) = true) (nM4 : PySem.W.isFn K (.ref g4) = true)
    (aM5 : PySem.W.findIn K (.ref CB) "twin_book" = some (some (.ref g5))) (lM5 : K.lookup g5 = some ⟨ocM5, odM5, .func (PySem.W.fnOf "twin_book" "Book.twin_book" (defArgs s_scTwin) (defBody s_scTwin) (defScope s_scTwin) .none kVM5 dcM5 pmM5 anM5 cdM5 ctM5), slM5⟩) (eM5 : PySem.W.codeIn K cdM5 "Book.twin_book" = true) (kM5 : PySem.W.keepIn K (.ref g5) = true) (nM5 : PySem.W.isFn K (.ref g5) = true)
    (aM6 : PySem.W.findIn K (.ref CE) "twin_books" = some (some (.ref g6))) (lM6 : K.lookup g6 = some ⟨ocM6, odM6, .func (PySem.W.fnOf "twin_books" "Estate.twin_books" (defArgs s_scTwB) (defBody s_scTwB) (defScope s_scTwB) .none kVM6 dcM6 pmM6 anM6 cdM6 ctM6), slM6⟩) (eM6 : PySem.W.codeIn K cdM6 "Estate.twin_books" = true) (kM6 : PySem.W.keepIn K (.ref g6) = true) (nM6 : PySem.W.isFn K (.ref g6) = true)
    (aM7 : PySem.W.findIn K (.ref CB) "keep_entry" = some (some (.ref g7))) (lM7 : K.lookup g7 = some ⟨ocM7, odM7, .func (PySem.W.fnOf "keep_entry" "Book.keep_entry" (defArgs s_scKeep) (defBody s_scKeep) (defScope s_scKeep) .none kVM7 dcM7 pmM7 anM7 cdM7 ctM7), slM7⟩) (eM7 : PySem.W.codeIn K cdM7 "Book.keep_entry" = true) (kM7 : PySem.W.keepIn K (.ref g7) = true) (nM7 : PySem.W.isFn K (.ref g7) = true)
    (aM8 : PySem.W.findIn K (.ref CB) "put_entry" = some (some (.ref g8))) (lM8 : K.lookup g8 = some ⟨ocM8, odM8, .func (PySem.W.fnOf "put_entry" "Book.put_entry" (defArgs s_scPut) (defBody s_scPut) (defScope s_scPut) .none kVM8 dcM8 pmM8 anM8 cdM8 ctM8), slM8⟩) (eM8 : PySem.W.codeIn K cdM8 "Book.put_entry" = true) (kM8 : PySem.W.keepIn K (.ref g8) = true) (nM8 : PySem.W.isFn K (.ref g8) = true)
    (aM9 : PySem.W.findIn K (.ref CE) "keep_books" = some (some (.ref g9))) (lM9 : K.lookup g9 = some ⟨ocM9, odM9, .func (PySem.W.fnOf "keep_books" "Estate.keep_books" (defArgs s_scKeepB) (defBody s_scKeepB) (defScope s_scKeepB) .none kVM9 dcM9 pmM9 anM9 cdM9 ctM9), slM9⟩) (eM9 : PySem.W.codeIn K cdM9 "Estate.keep_books" = true) (kM9 : PySem.W.keepIn K (.ref g9) = true) (nM9 : PySem.W.isFn K (.ref g9) = true)
    (aM10 : PySem.W.findIn K (.ref CE) "keep_placing" = some (some (.ref g10))) (lM10 : K.lookup g10 = some ⟨ocM10, odM10, .func (PySem.W.fnOf "keep_placing" "Estate.keep_placing" (defArgs s_scKeepP) (defBody s_scKeepP) (defScope s_scKeepP) .none kVM10 dcM10 pmM10 anM10 cdM10 ctM10), slM10⟩) (eM10 : PySem.W.codeIn K cdM10 "Estate.keep_placing" = true) (kM10 : PySem.W.keepIn K (.ref g10) = true) (nM10 : PySem.W.isFn K (.ref g10) = true)
    (aM11 : PySem.W.findIn K (.ref CE) "book_gang" = some (some (.ref g11))) (lM11 : K.lookup g11 = some ⟨ocM11, odM11, .func (PySem.W.fnOf "book_gang" "Estate.book_gang" (defArgs s_scBook) (defBody s_scBook) (defScope s_scBook) .none kVM11 dcM11 pmM11 anM11 cdM11 ctM11), slM11⟩) (eM11 : PySem.W.codeIn K cdM11 "Estate.book_gang" = true) (kM11 : PySem.W.keepIn K (.ref g11) = true) (nM11 : PySem.W.isFn K (.ref g11) = true)
    (aM12 : PySem.W.findIn K (.ref CH) "__init__" = some (some (.ref g12))) (lM12 : K.lookup g12 = some ⟨ocM12, odM12, .func (PySem.W.fnOf "__init__" "House.__init__" (defArgs s_scHInit) (defBody s_scHInit) (defScope s_scHInit) .none kVM12 dcM12 pmM12 anM12 cdM12 ctM12), slM12⟩) (eM12 : PySem.W.codeIn K cdM12 "House.__init__" = true) (kM12 : PySem.W.keepIn K (.ref g12) = true) (nM12 : PySem.W.isFn K (.ref g12) = true)
    (aM13 : PySem.W.findIn K (.ref CE) "add_house" = some (some (.ref g13))) (lM13 : K.lookup g13 = some ⟨ocM13, odM13, .func (PySem.W.fnOf "add_house" "Estate.add_house" (defArgs s_scAdd) (defBody s_scAdd) (defScope s_scAdd) .none kVM13 dcM13 pmM13 anM13 cdM13 ctM13), slM13⟩) (eM13 : PySem.W.codeIn K cdM13 "Estate.add_house" = true) (kM13 : PySem.W.keepIn K (.ref g13) = true) (nM13 : PySem.W.isFn K (.ref g13) = true)
    (aM14 : PySem.W.findIn K (.ref CE) "set_state" = some (some (.ref g14))) (lM14 : K.lookup g14 = some ⟨ocM14, odM14, .func (PySem.W.fnOf "set_state" "Estate.set_state" (defArgs s_scSet) (defBody s_scSet) (defScope s_scSet) .none kVM14 dcM14 pmM14 anM14 cdM14 ctM14), slM14⟩) (eM14 : PySem.W.codeIn K cdM14 "Estate.set_state" = true) (kM14 : PySem.W.keepIn K (.ref g14) = true) (nM14 : PySem.W.isFn K (.ref g14) = true)
    (aM15 : PySem.W.findIn K (.ref CE) "rising_houses" = some (some (.ref g15))) (lM15 : K.lookup g15 = some ⟨ocM15, odM15, .func (PySem.W.fnOf "rising_houses" "Estate.rising_houses" (defArgs s_scRise) (defBody s_scRise) (defScope s_scRise) .none kVM15 dcM15 pmM15 anM15 cdM15 ctM15), slM15⟩) (eM15 : PySem.W.codeIn K cdM15 "Estate.rising_houses" = true) (kM15 : PySem.W.keepIn K (.ref g15) = true) (nM15 : PySem.W.isFn K (.ref g15) = true)
    (aM16 : PySem.W.findIn K (.ref CB) "whole_room" = some (some (.ref g16))) (lM16 : K.lookup g16 = some ⟨ocM16, odM16, .func (PySem.W.fnOf "whole_room" "Book.whole_room" (defArgs s_scWRoom) (defBody s_scWRoom) (defScope s_scWRoom) .none kVM16 dcM16 pmM16 anM16 cdM16 ctM16), slM16⟩) (eM16 : PySem.W.codeIn K cdM16 "Book.whole_room" = true) (kM16 : PySem.W.keepIn K (.ref g16) = true) (nM16 : PySem.W.isFn K (.ref g16) = true)
    (aM17 : PySem.W.findIn K (.ref CE) "house_rows" = some (some (.ref g17))) (lM17 : K.lookup g17 = some ⟨ocM17, odM17, .func (PySem.W.fnOf "house_rows" "Estate.house_rows" (defArgs s_scHRows) (defBody s_scHRows) (defScope s_scHRows) .none kVM17 dcM17 pmM17 anM17 cdM17 ctM17), slM17⟩) (eM17 : PySem.W.codeIn K cdM17 "Estate.house_rows" = true) (kM17 : PySem.W.keepIn K (.ref g17) = true) (nM17 : PySem.W.isFn K (.ref g17) = true)
    (aM18 : PySem.W.findIn K (.ref CE) "placing_of" = some (some (.ref g18))) (lM18 : K.lookup g18 = some ⟨ocM18, odM18, .func (PySem.W.fnOf "placing_of" "Estate.placing_of" (defArgs s_scPlOf) (defBody s_scPlOf) (defScope s_scPlOf) .none kVM18 dcM18 pmM18 anM18 cdM18 ctM18), slM18⟩) (eM18 : PySem.W.codeIn K cdM18 "Estate.placing_of" = true) (kM18 : PySem.W.keepIn K (.ref g18) = true) (nM18 : PySem.W.isFn K (.ref g18) = true)
    (aM19 : PySem.W.findIn K (.ref CB) "entry_of" = some (some (.ref g19))) (lM19 : K.lookup g19 = some ⟨ocM19, odM19, .func (PySem.W.fnOf "entry_of" "Book.entry_of" (defArgs s_scEOf) (defBody s_scEOf) (defScope s_scEOf) .none kVM19 dcM19 pmM19 anM19 cdM19 ctM19), slM19⟩) (eM19 : PySem.W.codeIn K cdM19 "Book.entry_of" = true) (kM19 : PySem.W.keepIn K (.ref g19) = true) (nM19 : PySem.W.isFn K (.ref g19) = true)
    (aM20 : PySem.W.findIn K (.ref CE) "stretch_of" = some (some (.ref g20))) (lM20 : K.lookup g20 = some ⟨ocM20, odM20, .func (PySem.W.fnOf "stretch_of" "Estate.stretch_of" (defArgs s_scStOf) (defBody s_scStOf) (defScope s_scStOf) .none kVM20 dcM20 pmM20 anM20 cdM20 ctM20), slM20⟩) (eM20 : PySem.W.codeIn K cdM20 "Estate.stretch_of" = true) (kM20 : PySem.W.keepIn K (.ref g20) = true) (nM20 : PySem.W.isFn K (.ref g20) = true)
    (aM21 : PySem.W.findIn K (.ref CE) "booked_rows" = some (some (.ref g21))) (lM21 : K.lookup g21 = some ⟨ocM21, odM21, .func (PySem.W.fnOf "booked_rows" "Estate.booked_rows" (defArgs s_scBRows) (defBody s_scBRows) (defScope s_scBRows) .none kVM21 dcM21 pmM21 anM21 cdM21 ctM21), slM21⟩) (eM21 : PySem.W.codeIn K cdM21 "Estate.booked_rows" = true) (kM21 : PySem.W.keepIn K (.ref g21) = true) (nM21 : PySem.W.isFn K (.ref g21) = true)
    (aM22 : PySem.W.findIn K (.ref CB) "load_at" = some (some (.ref g22))) (lM22 : K.lookup g22 = some ⟨ocM22, odM22, .func (PySem.W.fnOf "load_at" "Book.load_at" (defArgs s_scLoadAt) (defBody s_scLoadAt) (defScope s_scLoadAt) .none kVM22 dcM22 pmM22 anM22 cdM22 ctM22), slM22⟩) (eM22 : PySem.W.codeIn K cdM22 "Book.load_at" = true) (kM22 : PySem.W.keepIn K (.ref g22) = true) (nM22 : PySem.W.isFn K (.ref g22) = true)
    (aM23 : PySem.W.findIn K (.ref CE) "house_loads" = some (some (.ref g23))) (lM23 : K.lookup g23 = some ⟨ocM23, odM23, .func (PySem.W.fnOf "house_loads" "Estate.house_loads" (defArgs s_scHLoads) (defBody s_scHLoads) (defScope s_scHLoads) .none kVM23 dcM23 pmM23 anM23 cdM23 ctM23), slM23⟩) (eM23 : PySem.W.codeIn K cdM23 "Estate.house_loads" = true) (kM23 : PySem.W.keepIn K (.ref g23) = true) (nM23 : PySem.W.isFn K (.ref g23) = true)
    (aM24 : PySem.W.findIn K (.ref CB) "entry_rows" = some (some (.ref g24))) (lM24 : K.lookup g24 = some ⟨ocM24, odM24, .func (PySem.W.fnOf "entry_rows" "Book.entry_rows" (defArgs s_scERows) (defBody s_scERows) (defScope s_scERows) .none kVM24 dcM24 pmM24 anM24 cdM24 ctM24), slM24⟩) (eM24 : PySem.W.codeIn K cdM24 "Book.entry_rows" = true) (kM24 : PySem.W.keepIn K (.ref g24) = true) (nM24 : PySem.W.isFn K (.ref g24) = true)
    (aM25 : PySem.W.findIn K (.ref CE) "entries_in" = some (some (.ref g25))) (lM25 : K.lookup g25 = some ⟨ocM25, odM25, .func (PySem.W.fnOf "entries_in" "Estate.entries_in" (defArgs s_scEIn) (defBody s_scEIn) (defScope s_scEIn) .none kVM25 dcM25 pmM25 anM25 cdM25 ctM25), slM25⟩) (eM25 : PySem.W.codeIn K cdM25 "Estate.entries_in" = true) (kM25 : PySem.W.keepIn K (.ref g25) = true) (nM25 : PySem.W.isFn K (.ref g25) = true) :
    LamX.LawAtS l w K CX0 9 63 "_law_script" mg fa h := by
  have G := Z.g
  have e := hfa.symm.trans (PySem.W.mg_of X G a27)
  cases e
  have F1 := fun_mk (st := sBox) l1 e1 k1
  have b1 := F1.binds (ps := ["_law_script", "_law_k"]) (fun _ _ _ _ _ _ us hl => match us, hl with | [_, _], _ => rfl)
  have m1 := PySem.W.mg_of X G a1
  have F2 := fun_mk (st := sTake) l2 e2 k2
  have b2 := F2.binds (ps := ["_law_box_here", "_law_many"]) (fun _ _ _ _ _ _ us hl => match us, hl with | [_, _], _ => rfl)
  have m2 := PySem.W.mg_of X G a2
  have F3 := fun_mk (st := s_scNam) l3 e3 k3
  have b3 := F3.binds (ps := ["_law_box_here", "_law_used"]) (fun _ _ _ _ _ _ us hl => match us, hl with | [_, _], _ => rfl)
  have m3 := PySem.W.mg_of X G a3
  have F4 := fun_mk (st := s_scAmt) l4 e4 k4
  have b4 := F4.binds (ps := ["_law_box_here", "_law_wares"]) (fun _ _ _ _ _ _ us hl => match us, hl with | [_, _], _ => rfl)
  have m4 := PySem.W.mg_of X G a4
  have F5 := fun_mk (st := s_scKnd) l5 e5 k5
  have b5 := F5.binds (ps := ["_law_box_here", "_law_wares"]) (fun _ _ _ _ _ _ us hl => match us, hl with | [_, _], _ => rfl)
  have m5 := PySem.W.mg_of X G a5
  have F6 := fun_mk (st := s_scHou) l6 e6 k6
  have b6 := F6.binds (ps := ["_law_box_here", "_law_kinds_here", "_law_wares", "_law_rows"]) (fun _ _ _ _ _ _ us hl => match us, hl with | [_, _, _, _], _ => rfl)
  have m6 := PySem.W.mg_of X G a6
  have F7 := fun_mk (st := s_scWnt) l7 e7 k7
  have b7 := F7.binds (ps := ["_law_box_here", "_law_wares"]) (fun _ _ _ _ _ _ us hl => match us, hl with | [_, _], _ => rfl)
  have m7 := PySem.W.mg_of X G a7
  have F8 := fun_mk (st := s_scGng) l8 e8 k8
  have b8 := F8.binds (ps := ["_law_box_here", "_law_name_here", "_law_wares"]) (fun _ _ _ _ _ _ us hl => match us, hl with | [_, _, _], _ => rfl)
  have m8 := PySem.W.mg_of X G a8
  have F9 := fun_mk (st := s_scLod) l9 e9 k9
  have b9 := F9.binds (ps := ["_law_world", "_law_name_here", "_law_time"]) (fun _ _ _ _ _ _ us hl => match us, hl with | [_, _, _], _ => rfl)
  have m9 := PySem.W.mg_of X G a9
  have F10 := fun_mk (st := s_scLef) l10 e10 k10
  have b10 := F10.binds (ps := ["_law_world", "_law_row", "_law_begin", "_law_end"]) (fun _ _ _ _ _ _ us hl => match us, hl with | [_, _, _, _], _ => rfl)
  have m10 := PySem.W.mg_of X G a10
  have F11 := fun_mk (st := s_scOft) l11 e11 k11
  have b11 := F11.binds (ps := ["_law_want_here", "_law_room", "_law_most"]) (fun _ _ _ _ _ _ us hl => match us, hl with | [_, _, _], _ => rfl)
  have m11 := PySem.W.mg_of X G a11
  have F12 := fun_mk (st := s_scTimes) l12 e12 k12
  have b12 := F12.binds (ps := ["one", "n"]) (fun _ _ _ _ _ _ us hl => match us, hl with | [_, _], _ => rfl)
  have m12 := PySem.W.mg_of X G a12
  have F13 := fun_mk (st := s_scNothing) l13 e13 k13
  have b13 := F13.binds (ps := ["wares"]) (fun _ _ _ _ _ _ us hl => match us, hl with | [_], _ => rfl)
  have m13 := PySem.W.mg_of X G a13
  have F14 := fun_mk (st := s_scTurns) l14 e14 k14
  have b14 := F14.binds (ps := ["rows"]) (fun _ _ _ _ _ _ us hl => match us, hl with | [_], _ => rfl)
  have m14 := PySem.W.mg_of X G a14
  have F15 := fun_mk (st := s_scSum) l15 e15 k15
  have b15 := F15.binds (ps := ["one", "other"]) (fun _ _ _ _ _ _ us hl => match us, hl with | [_, _], _ => rfl)
  have m15 := PySem.W.mg_of X G a15
  have F16 := fun_mk (st := s_scLess) l16 e16 k16
  have b16 := F16.binds (ps := ["one", "other"]) (fun _ _ _ _ _ _ us hl => match us, hl with | [_, _], _ => rfl)
  have m16 := PySem.W.mg_of X G a16
  have F17 := fun_mk (st := s_scLoads) l17 e17 k17
  have b17 := F17.binds (ps := ["wares", "rows"]) (fun _ _ _ _ _ _ us hl => match us, hl with | [_, _], _ => rfl)
  have m17 := PySem.W.mg_of X G a17
  have C18 : FunC K "amount_fits" "amount_fits" s_scFits f18 _ c18 := ⟨⟨_, _, _, _, _, _, _, _, rfl, l18, e18⟩, k18⟩
  have F18 := C18.fn
  obtain ⟨h18x, g18x⟩ := tab_at Z X r18 (tab_in a18 l18 rfl u18 v18)
  have b18 := F18.binds (ps := ["one", "other"]) (fun _ _ _ _ _ _ us hl => match us, hl with | [_, _], _ => rfl)
  have m18 := PySem.W.mg_of X G a18
  have F19 := fun_mk (st := s_scFirst) l19 e19 k19
  have b19 := F19.binds (ps := ["room", "rows"]) (fun _ _ _ _ _ _ us hl => match us, hl with | [_, _], _ => rfl)
  have m19 := PySem.W.mg_of X G a19
  have F20 := fun_mk (st := s_scBkW) l20 e20 k20
  have b20 := F20.binds (ps := ["_law_box_here", "_law_world", "_law_estate", "_law_name_here"]) (fun _ _ _ _ _ _ us hl => match us, hl with | [_, _, _, _], _ => rfl)
  have m20 := PySem.W.mg_of X G a20
  have F21 := fun_mk (st := s_scMad) l21 e21 k21
  have b21 := F21.binds (ps := ["_law_script"]) (fun _ _ _ _ _ _ us hl => match us, hl with | [_], _ => rfl)
  have m21 := PySem.W.mg_of X G a21
  have F22 := fun_mk (st := s_scSee) l22 e22 k22
  have b22 := F22.binds (ps := ["_law_estate"]) (fun _ _ _ _ _ _ us hl => match us, hl with | [_], _ => rfl)
  have m22 := PySem.W.mg_of X G a22
  have F23 := fun_mk (st := s_scBeh) l23 e23 k23
  have b23 := F23.binds (ps := ["_law_script"]) (fun _ _ _ _ _ _ us hl => match us, hl with | [_], _ => rfl)
  have m23 := PySem.W.mg_of X G a23
  have F24 := fun_mk (st := s_scWOf) l24 e24 k24
  have b24 := F24.binds (ps := ["gang"]) (fun _ _ _ _ _ _ us hl => match us, hl with | [_], _ => rfl)
  have m24 := PySem.W.mg_of X G a24
  have C25 : FunC K "spare_houses" "spare_houses" s_scShs f25 _ c25 := ⟨⟨_, _, _, _, _, _, _, _, rfl, l25, e25⟩, k25⟩
  have F25 := C25.fn
  obtain ⟨h25x, g25x⟩ := tab_at Z X r25 (tab_in a25 l25 rfl u25 v25)
  have b25 := F25.binds (ps := ["estate", "gangs"]) (fun _ _ _ _ _ _ us hl => match us, hl with | [_, _], _ => rfl)
  have m25 := PySem.W.mg_of X G a25
  have F26 := fun_mk (st := s_scSpr) l26 e26 k26
  have b26 := F26.binds (ps := ["_law_world", "_law_gangs"]) (fun _ _ _ _ _ _ us hl => match us, hl with | [_, _], _ => rfl)
  have m26 := PySem.W.mg_of X G a26
  have F27 := fun_mk (st := s_scLaw) l27 e27 k27
  have FM1 := fun_mk (st := s_scEInit) lM1 eM1 kM1
  have bM1 := FM1.binds (ps := ["self"]) (fun _ _ _ _ _ _ us hl => match us, hl with | [_], _ => rfl)
  have MM1 : Meth K CE "__init__" g1 := ⟨aM1, nM1, kM1⟩
  have FM2 := fun_mk (st := s_scIsB) lM2 eM2 kM2
  have bM2 := FM2.binds (ps := ["self", "name"]) (fun _ _ _ _ _ _ us hl => match us, hl with | [_, _], _ => rfl)
  have MM2 : Meth K CE "is_booked" g2 := ⟨aM2, nM2, kM2⟩
  have FM3 := fun_mk (st := s_scHOf) lM3 eM3 kM3
  have bM3 := FM3.binds (ps := ["self", "name"]) (fun _ _ _ _ _ _ us hl => match us, hl with | [_, _], _ => rfl)
  have MM3 : Meth K CE "house_of" g3 := ⟨aM3, nM3, kM3⟩
  have FM4 := fun_mk (st := s_scInit) lM4 eM4 kM4
  have bM4 := FM4.binds (ps := ["self", "room"]) (fun _ _ _ _ _ _ us hl => match us, hl with | [_, _], _ => rfl)
  have MM4 : Meth K CB "__init__" g4 := ⟨aM4, nM4, kM4⟩
  have FM5 := fun_mk (st := s_scTwin) lM5 eM5 kM5
  have bM5 := FM5.binds (ps := ["self"]) (fun _ _ _ _ _ _ us hl => match us, hl with | [_], _ => rfl)
  have MM5 : Meth K CB "twin_book" g5 := ⟨aM5, nM5, kM5⟩
  have FM6 := fun_mk (st := s_scTwB) lM6 eM6 kM6
  have bM6 := FM6.binds (ps := ["self", "names"]) (fun _ _ _ _ _ _ us hl => match us, hl with | [_, _], _ => rfl)
  have MM6 : Meth K CE "twin_books" g6 := ⟨aM6, nM6, kM6⟩
  have FM7 := fun_mk (st := s_scKeep) lM7 eM7 kM7
  have bM7 := FM7.binds (ps := ["self", "entry"]) (fun _ _ _ _ _ _ us hl => match us, hl with | [_, _], _ => rfl)
  have MM7 : Meth K CB "keep_entry" g7 := ⟨aM7, nM7, kM7⟩
  have FM8 := fun_mk (st := s_scPut) lM8 eM8 kM8
  have bM8 := FM8.binds (ps := ["self", "key", "begin", "end", "amount"]) (fun _ _ _ _ _ _ us hl => match us, hl with | [_, _, _, _, _], _ => rfl)
  have MM8 : Meth K CB "put_entry" g8 := ⟨aM8, nM8, kM8⟩
  have FM9 := fun_mk (st := s_scKeepB) lM9 eM9 kM9
  have bM9 := FM9.binds (ps := ["self", "books"]) (fun _ _ _ _ _ _ us hl => match us, hl with | [_, _], _ => rfl)
  have MM9 : Meth K CE "keep_books" g9 := ⟨aM9, nM9, kM9⟩
  have FM10 := fun_mk (st := s_scKeepP) lM10 eM10 kM10
  have bM10 := FM10.binds (ps := ["self", "name", "pairs"]) (fun _ _ _ _ _ _ us hl => match us, hl with | [_, _, _], _ => rfl)
  have MM10 : Meth K CE "keep_placing" g10 := ⟨aM10, nM10, kM10⟩
  have FM11 := fun_mk (st := s_scBook) lM11 eM11 kM11
  have bM11 := FM11.binds (ps := ["self", "gang", "placing", "begin"]) (fun _ _ _ _ _ _ us hl => match us, hl with | [_, _, _, _], _ => rfl)
  have MM11 : Meth K CE "book_gang" g11 := ⟨aM11, nM11, kM11⟩
  have FM12 := fun_mk (st := s_scHInit) lM12 eM12 kM12
  have bM12 := FM12.binds (ps := ["self", "yard", "kind", "state", "book"]) (fun _ _ _ _ _ _ us hl => match us, hl with | [_, _, _, _, _], _ => rfl)
  have MM12 : Meth K CH "__init__" g12 := ⟨aM12, nM12, kM12⟩
  have FM13 := fun_mk (st := s_scAdd) lM13 eM13 kM13
  have bM13 := FM13.binds (ps := ["self", "name", "yard", "room", "kind"]) (fun _ _ _ _ _ _ us hl => match us, hl with | [_, _, _, _, _], _ => rfl)
  have MM13 : Meth K CE "add_house" g13 := ⟨aM13, nM13, kM13⟩
  have FM14 := fun_mk (st := s_scSet) lM14 eM14 kM14
  have bM14 := FM14.binds (ps := ["self", "name", "state"]) (fun _ _ _ _ _ _ us hl => match us, hl with | [_, _, _], _ => rfl)
  have MM14 : Meth K CE "set_state" g14 := ⟨aM14, nM14, kM14⟩
  have FM15 := fun_mk (st := s_scRise) lM15 eM15 kM15
  have bM15 := FM15.binds (ps := ["self"]) (fun _ _ _ _ _ _ us hl => match us, hl with | [_], _ => rfl)
  have MM15 : Meth K CE "rising_houses" g15 := ⟨aM15, nM15, kM15⟩
  have FM16 := fun_mk (st := s_scWRoom) lM16 eM16 kM16
  have bM16 := FM16.binds (ps := ["self"]) (fun _ _ _ _ _ _ us hl => match us, hl with | [_], _ => rfl)
  have MM16 : Meth K CB "whole_room" g16 := ⟨aM16, nM16, kM16⟩
  have FM17 := fun_mk (st := s_scHRows) lM17 eM17 kM17
  have bM17 := FM17.binds (ps := ["self"]) (fun _ _ _ _ _ _ us hl => match us, hl with | [_], _ => rfl)
  have MM17 : Meth K CE "house_rows" g17 := ⟨aM17, nM17, kM17⟩
  have FM18 := fun_mk (st := s_scPlOf) lM18 eM18 kM18
  have bM18 := FM18.binds (ps := ["self", "name"]) (fun _ _ _ _ _ _ us hl => match us, hl with | [_, _], _ => rfl)
  have MM18 : Meth K CE "placing_of" g18 := ⟨aM18, nM18, kM18⟩
  have FM19 := fun_mk (st := s_scEOf) lM19 eM19 kM19
  have bM19 := FM19.binds (ps := ["self", "key"]) (fun _ _ _ _ _ _ us hl => match us, hl with | [_, _], _ => rfl)
  have MM19 : Meth K CB "entry_of" g19 := ⟨aM19, nM19, kM19⟩
  have FM20 := fun_mk (st := s_scStOf) lM20 eM20 kM20
  have bM20 := FM20.binds (ps := ["self", "name"]) (fun _ _ _ _ _ _ us hl => match us, hl with | [_, _], _ => rfl)
  have MM20 : Meth K CE "stretch_of" g20 := ⟨aM20, nM20, kM20⟩
  have FM21 := fun_mk (st := s_scBRows) lM21 eM21 kM21
  have bM21 := FM21.binds (ps := ["self"]) (fun _ _ _ _ _ _ us hl => match us, hl with | [_], _ => rfl)
  have MM21 : Meth K CE "booked_rows" g21 := ⟨aM21, nM21, kM21⟩
  have FM22 := fun_mk (st := s_scLoadAt) lM22 eM22 kM22
  have bM22 := FM22.binds (ps := ["self", "time"]) (fun _ _ _ _ _ _ us hl => match us, hl with | [_, _], _ => rfl)
  have MM22 : Meth K CB "load_at" g22 := ⟨aM22, nM22, kM22⟩
  have FM23 := fun_mk (st := s_scHLoads) lM23 eM23 kM23
  have bM23 := FM23.binds (ps := ["self", "time"]) (fun _ _ _ _ _ _ us hl => match us, hl with | [_, _], _ => rfl)
  have MM23 : Meth K CE "house_loads" g23 := ⟨aM23, nM23, kM23⟩
  have FM24 := fun_mk (st := s_scERows) lM24 eM24 kM24
  have bM24 := FM24.binds (ps := ["self"]) (fun _ _ _ _ _ _ us hl => match us, hl with | [_], _ => rfl)
  have MM24 : Meth K CB "entry_rows" g24 := ⟨aM24, nM24, kM24⟩
  have FM25 := fun_mk (st := s_scEIn) lM25 eM25 kM25
  have bM25 := FM25.binds (ps := ["self", "name"]) (fun _ _ _ _ _ _ us hl => match us, hl with | [_, _], _ => rfl)
  have MM25 : Meth K CE "entries_in" g25 := ⟨aM25, nM25, kM25⟩
  have w1 := PySem.W.mg_of X G y1
  have w2 := PySem.W.mg_of X G y2
  have w3 := PySem.W.mg_of X G y3
  have W : Txt mg := ⟨PySem.W.mg_none_of X G z1, PySem.W.mg_none_of X G z2, PySem.W.mg_none_of X G z3, PySem.W.mg_none_of X G z4, PySem.W.mg_none_of X G z5, PySem.W.mg_none_of X G z6, PySem.W.mg_none_of X G z7, PySem.W.mg_none_of X G z8, PySem.W.mg_none_of X G z9, PySem.W.mg_none_of X G z10, PySem.W.mg_none_of X G z11, PySem.W.mg_none_of X G z12, PySem.W.mg_none_of X G z13⟩
  have q_len := PySem.W.mg_none_of X G z1
  have q_abs := PySem.W.mg_none_of X G z2
  have q_isinstance := PySem.W.mg_none_of X G z3
  have q_list := PySem.W.mg_none_of X G z4
  have q_tuple := PySem.W.mg_none_of X G z5
  have q_zip := PySem.W.mg_none_of X G z6
  have q_all := PySem.W.mg_none_of X G z7
  have q_str := PySem.W.mg_none_of X G z8
  have q_int := PySem.W.mg_none_of X G z9
  have q_bool := PySem.W.mg_none_of X G z10
  have q_max := PySem.W.mg_none_of X G z11
  have q_min := PySem.W.mg_none_of X G z12
  have q_range := PySem.W.mg_none_of X G z13
  have q_sum := PySem.W.mg_none_of X G z14
  have q_dict := PySem.W.mg_none_of X G z15
  have q_sorted := PySem.W.mg_none_of X G z16
  have q_enumerate := PySem.W.mg_none_of X G z17
  have q_any := PySem.W.mg_none_of X G z18
  have q_super := PySem.W.mg_none_of X G z19
  have R := refsEB_ok hR
  have GG : RefGE mg (fun i => [E0, E1, E2, E3, E4].getD i 0) := ⟨PySem.W.mg_of X G x0, PySem.W.mg_of X G x1, PySem.W.mg_of X G x2, PySem.W.mg_of X G x3, PySem.W.mg_of X G x4⟩
  have xp0 : ExcP K mg "Taken" E0 := excPB_ok (PySem.W.mg_of X G x0) h0
  have xp1 : ExcP K mg "NoHouse" E1 := excPB_ok (PySem.W.mg_of X G x1) h1
  have xp2 : ExcP K mg "NoGang" E2 := excPB_ok (PySem.W.mg_of X G x2) h2
  have xp5 : ExcP K mg "NoKey" E5 := excPB_ok (PySem.W.mg_of X G x5) h5
  obtain ⟨kB, mkB⟩ := bookB_ok hB
  obtain ⟨kH, mkH⟩ := houseB_ok hH
  obtain ⟨kE, mkE⟩ := estB_ok hE
  have kCB := mkB _ aM4 nM4
  have nCB := PySem.W.mg_of X G xCB
  have kCH := mkH _ aM12 nM12
  have nCH := PySem.W.mg_of X G xCH
  have kCE := mkE _ aM1 nM1
  have nCE := PySem.W.mg_of X G xCE
  refine ⟨PySem.W.fnOf "law" "law" (defArgs s_scLaw) (defBody s_scLaw) (defScope s_scLaw) .none kV27 dc27 pm27 an27 cd27 ct27, [(c18, T18), (c25, T25)], spLaw K [T18, T25], fun p hp => ?_, fun p hp => ?_, fun p hp => ?_, fun s v => .of_eq rfl, fun H a ns hl _ hT hS => ⟨a, ns, rfl, hS, hl, fun T hm => ?_, fun _ => rfl⟩, fun base _ _ TB => ?_⟩
  · rcases List.mem_cons.mp hp with e | hp
    · rw [e]; exact g18x
    · have e := List.mem_singleton.mp hp
      rw [e]; exact g25x
  · rcases List.mem_cons.mp hp with e | hp
    · rw [e]; exact n18
    · have e := List.mem_singleton.mp hp
      rw [e]; exact n25
  · rcases List.mem_cons.mp hp with e | hp
    · rw [e]; exact h18x
    · have e := List.mem_singleton.mp hp
      rw [e]; exact h25x
  · rcases List.mem_cons.mp hm with e | hm
    · rw [e]; exact ⟨#[], hT (c18, T18) List.mem_cons_self, trivial⟩
    · have e := List.mem_singleton.mp hm
      rw [e]; exact ⟨#[], hT (c25, T25) (List.mem_cons_of_mem _ List.mem_cons_self), trivial⟩
  · obtain ⟨p1_18, p2_18, p3_18⟩ := TB (c18, T18) List.mem_cons_self
    have B18 : GxR.TabB base mg c18 T18 := ⟨p1_18, p2_18, p3_18⟩
    obtain ⟨p1_25, p2_25, p3_25⟩ := TB (c25, T25) (List.mem_cons_of_mem _ List.mem_cons_self)
    have B25 : GxR.TabB base mg c25 T25 := ⟨p1_25, p2_25, p3_25⟩
    have G__law_box := ok_box (P := l.prog) (w := w) (K := K) (mg := mg) (base := base) (k := 0) F1 W
    have G__law_take := ok_take (P := l.prog) (w := w) (K := K) (mg := mg) (base := base) (k := 0) F2
    have G__law_name := ok_wnam (P := l.prog) (w := w) (K := K) (mg := mg) (base := base) (k := 1) F3 W G__law_take m2 F2.kp b2
    have G__law_amount := ok_wamt (P := l.prog) (w := w) (K := K) (mg := mg) (base := base) (k := 1) F4 W G__law_take m2 F2.kp b2
    have G__law_kinds := ok_wknd (P := l.prog) (w := w) (K := K) (mg := mg) (base := base) (k := 2) F5 W (FnOk.mono (k := 2) G__law_take (by decide)) m2 F2.kp b2 G__law_name m3 F3.kp b3 G__law_amount m4 F4.kp b4
    have G_EstateX_initX := ok_einit (P := l.prog) (w := w) (K := K) (mg := mg) (base := base) (k := 0) (CE := CE) FM1 kE
    have G__law_house := ok_whou (P := l.prog) (w := w) (K := K) (mg := mg) (base := base) (k := 2) F6 W (FnOk.mono (k := 2) G__law_take (by decide)) m2 F2.kp b2 G__law_name m3 F3.kp b3 G__law_amount m4 F4.kp b4
    have G__law_want := ok_wwnt (P := l.prog) (w := w) (K := K) (mg := mg) (base := base) (k := 1) F7 W q_sum G__law_take m2 F2.kp b2
    have G__law_gang := ok_wgng (P := l.prog) (w := w) (K := K) (mg := mg) (base := base) (k := 2) F8 W (FnOk.mono (k := 2) G__law_take (by decide)) m2 F2.kp b2 G__law_want m7 F7.kp b7
    have G__law_load := ok_wlod (P := l.prog) (w := w) (K := K) (mg := mg) (base := base) (k := 0) F9 W
    have G__law_left := ok_wlef (P := l.prog) (w := w) (K := K) (mg := mg) (base := base) (k := 1) F10 W G__law_load m9 F9.kp b9
    have G__law_often := ok_woft (P := l.prog) (w := w) (K := K) (mg := mg) (base := base) (k := 0) F11 W
    have G_Estate_is_booked := ok_isb (P := l.prog) (w := w) (K := K) (mg := mg) (base := base) (k := 0) (CE := CE) FM2 kE
    have G_Estate_house_of := ok_hof (P := l.prog) (w := w) (K := K) (mg := mg) (base := base) (k := 0) (CE := CE) (NH := E1) FM3 kE xp1
    have G_BookX_initX := ok_init (P := l.prog) (w := w) (K := K) (mg := mg) (base := base) (k := 0) (C := CB) FM4 kB
    have G_Book_twin_book := ok_twin (P := l.prog) (w := w) (K := K) (mg := mg) (base := base) (k := 1) (C := CB) FM5 kB kCB nCB q_dict G_BookX_initX bM4
    have G_Estate_twin_books := ok_twb (P := l.prog) (w := w) (K := K) (mg := mg) (base := base) (k := 3) (CE := CE) (CH := CH) (CB := CB) (NH := E1) FM6 kE kH kB (FnOk.mono (k := 3) G_Estate_house_of (by decide)) MM3 bM3 G_Book_twin_book MM5 bM5
    have G_amount_times := ok_times (P := l.prog) (w := w) (K := K) (mg := mg) (base := base) (k := 0) F12 W
    have G_nothing_of := ok_nothing (P := l.prog) (w := w) (K := K) (mg := mg) (base := base) (k := 0) F13
    have G_turns_of := ok_turns (P := l.prog) (w := w) (K := K) (mg := mg) (base := base) (k := 0) F14 q_sorted w2 w1
    have G_amount_sum := ok_sum (P := l.prog) (w := w) (K := K) (mg := mg) (base := base) (k := 0) F15 W
    have G_amount_less := ok_less (P := l.prog) (w := w) (K := K) (mg := mg) (base := base) (k := 0) F16 W
    have G_loads_of := ok_loads (P := l.prog) (w := w) (K := K) (mg := mg) (base := base) (k := 1) F17 W w2 G_nothing_of m13 F13.kp b13 G_turns_of m14 F14.kp b14 G_amount_sum m15 F15.kp b15 G_amount_less m16 F16.kp b16
    have G_amount_fits := ok_fits (P := l.prog) (w := w) (K := K) (mg := mg) (base := base) (k := 0) (T := T18) C18 W B18
    have G_first_over := ok_first (P := l.prog) (w := w) (K := K) (mg := mg) (base := base) (k := 2) (Ts := [T18, T25]) (T := T18) (by simp) F19 W G_loads_of m17 F17.kp b17 (FnOk.mono (k := 2) G_amount_fits (by decide)) m18 F18.kp b18
    have G_Book_keep_entry := ok_keep (P := l.prog) (w := w) (K := K) (mg := mg) (base := base) (k := 2) (Ts := [T18, T25]) (C := CB) (TM := E3) FM7 kB (excT_of (k := 2) la2 lb2 lc2 ld2 le2 lg2 lh2 li2 q_super xT lj2 (PySem.W.mg_of X G x3)) G_first_over m19 F19.kp b19
    have G_Book_put_entry := ok_put (P := l.prog) (w := w) (K := K) (mg := mg) (base := base) (k := 4) (Ts := [T18, T25]) (C := CB) (TK := E0) (TM := E3) FM8 kB xp0 G_Book_keep_entry MM7 bM7
    have G_Estate_keep_books := ok_keepb (P := l.prog) (w := w) (K := K) (mg := mg) (base := base) (k := 1) (CE := CE) (CH := CH) (NH := E1) FM9 kE kH G_Estate_house_of MM3 bM3
    have G_Estate_keep_placing := ok_keepp (P := l.prog) (w := w) (K := K) (mg := mg) (base := base) (k := 1) (CE := CE) FM10 kE W G_Estate_is_booked MM2 bM2
    have G_Estate_book_gang := ok_book (P := l.prog) (w := w) (K := K) (mg := mg) (base := base) (k := 5) (Ts := [T18, T25]) (CE := CE) (CH := CH) (CB := CB) (NH := E1) (TK := E0) (TM := E3) FM11 kE kH kB q_sorted xp0 (FnOk.mono (k := 5) G_Estate_is_booked (by decide)) MM2 bM2 (FnOk.mono (k := 5) G_Estate_twin_books (by decide)) MM6 bM6 (FnOk.mono (k := 5) G_amount_times (by decide)) m12 F12.kp b12 G_Book_put_entry MM8 bM8 (FnOk.mono (k := 5) G_Estate_keep_books (by decide)) MM9 bM9 (FnOk.mono (k := 5) G_Estate_keep_placing (by decide)) MM10 bM10
    have G__law_booked := ok_wbkd (P := l.prog) (w := w) (K := K) (mg := mg) (base := base) (k := 6) (gn := gn47) (Ts := [T18, T25]) (CE := CE) (CH := CH) (CB := CB) (NH := E1) (TK := E0) (TM := E3) F20 W kE (FnOk.mono (k := 6) G__law_take (by decide)) m2 F2.kp b2 (FnOk.mono (k := 6) G__law_gang (by decide)) m8 F8.kp b8 (FnOk.mono (k := 6) G__law_left (by decide)) m10 F10.kp b10 (FnOk.mono (k := 6) G__law_often (by decide)) m11 F11.kp b11 G_Estate_book_gang MM11 bM11
    have G_HouseX_initX := ok_hinit (P := l.prog) (w := w) (K := K) (mg := mg) (base := base) (k := 0) (CH := CH) FM12 kH
    have G_Estate_add_house := ok_add (P := l.prog) (w := w) (K := K) (mg := mg) (base := base) (k := 1) (CE := CE) (CH := CH) (CB := CB) (TK := E0) FM13 kE kCH kCB nCH nCB xp0 w3 G_HouseX_initX bM12 G_BookX_initX bM4
    have G_Estate_set_state := ok_sets (P := l.prog) (w := w) (K := K) (mg := mg) (base := base) (k := 1) (CE := CE) (CH := CH) (NH := E1) FM14 kE kH G_Estate_house_of MM3 bM3
    have G__law_made := ok_wmade (P := l.prog) (w := w) (K := K) (mg := mg) (base := base) (k := 6) (Ts := [T18, T25]) (CE := CE) (CH := CH) (CB := CB) F21 W kE kCE nCE (FnOk.mono (k := 7) G__law_box (by decide)) m1 F1.kp b1 (FnOk.mono (k := 7) G__law_take (by decide)) m2 F2.kp b2 (FnOk.mono (k := 7) G__law_kinds (by decide)) m5 F5.kp b5 (FnOk.mono (k := 6) G_EstateX_initX (by decide)) bM1 (FnOk.mono (k := 7) G__law_house (by decide)) m6 F6.kp b6 G__law_booked m20 F20.kp b20 (FnOk.mono (k := 7) G_Estate_add_house (by decide)) MM13 bM13 (FnOk.mono (k := 7) G_Estate_set_state (by decide)) MM14 bM14
    have G_Estate_rising_houses := ok_rise (P := l.prog) (w := w) (K := K) (mg := mg) (base := base) (k := 0) (CE := CE) FM15 kE q_sorted
    have G_Book_whole_room := ok_wroom (P := l.prog) (w := w) (K := K) (mg := mg) (base := base) (k := 0) (C := CB) FM16 kB
    have G_Estate_house_rows := ok_hrows (P := l.prog) (w := w) (K := K) (mg := mg) (base := base) (k := 1) (CE := CE) (CH := CH) (CB := CB) FM17 kE kH kB G_Estate_rising_houses MM15 bM15 G_Book_whole_room MM16 bM16
    have G_Estate_placing_of := ok_plof (P := l.prog) (w := w) (K := K) (mg := mg) (base := base) (k := 1) (CE := CE) (NG := E2) FM18 kE xp2 G_Estate_is_booked MM2 bM2
    have G_Book_entry_of := ok_eof (P := l.prog) (w := w) (K := K) (mg := mg) (base := base) (k := 0) (C := CB) (N := E5) FM19 kB xp5
    have G_Estate_stretch_of := ok_stof (P := l.prog) (w := w) (K := K) (mg := mg) (base := base) (k := 2) (CE := CE) (CH := CH) (CB := CB) (NH := E1) (NG := E2) (NK := E5) FM20 kE kH kB G_Estate_placing_of MM18 bM18 (FnOk.mono (k := 2) G_Estate_house_of (by decide)) MM3 bM3 (FnOk.mono (k := 2) G_Book_entry_of (by decide)) MM19 bM19
    have G_Estate_booked_rows := ok_brows (P := l.prog) (w := w) (K := K) (mg := mg) (base := base) (k := 3) (CE := CE) (CH := CH) (CB := CB) (NG := E2) FM21 kE q_sorted G_Estate_stretch_of MM20 bM20
    have G_Book_load_at := ok_loadat (P := l.prog) (w := w) (K := K) (mg := mg) (base := base) (k := 1) (C := CB) FM22 W kB G_nothing_of m13 F13.kp b13 G_amount_sum m15 F15.kp b15
    have G_Estate_house_loads := ok_hloads (P := l.prog) (w := w) (K := K) (mg := mg) (base := base) (k := 2) (CE := CE) (CH := CH) (CB := CB) FM23 kE kH kB (FnOk.mono (k := 2) G_Estate_rising_houses (by decide)) MM15 bM15 G_Book_load_at MM22 bM22
    have G__law_seen := ok_wsee (P := l.prog) (w := w) (K := K) (mg := mg) (base := base) (k := 4) (CE := CE) (CH := CH) (CB := CB) F22 kE (FnOk.mono (k := 4) G_Estate_house_rows (by decide)) MM17 bM17 G_Estate_booked_rows MM21 bM21 (FnOk.mono (k := 4) G_Estate_house_loads (by decide)) MM23 bM23
    have G__law_behind := ok_wbeh (P := l.prog) (w := w) (K := K) (mg := mg) (base := base) (k := 1) F23 W q_enumerate G__law_box m1 F1.kp b1
    have G_want_of := ok_wof (P := l.prog) (w := w) (K := K) (mg := mg) (base := base) (k := 0) F24 W
    have G_Book_entry_rows := ok_erows (P := l.prog) (w := w) (K := K) (mg := mg) (base := base) (k := 0) (C := CB) FM24 q_sorted kB
    have G_Estate_entries_in := ok_ein (P := l.prog) (w := w) (K := K) (mg := mg) (base := base) (k := 1) (CE := CE) (CH := CH) (CB := CB) (NH := E1) FM25 kE kH kB G_Estate_house_of MM3 bM3 G_Book_entry_rows MM24 bM24
    have G_spare_houses := ok_shs (P := l.prog) (w := w) (K := K) (mg := mg) (base := base) (k := 2) (T := T25) (Tf := T18) (CE := CE) (CH := CH) (CB := CB) (NH := E1) C25 W q_any B25 kE (FnOk.mono (k := 2) G_amount_fits (by decide)) m18 F18.kp b18 (FnOk.mono (k := 2) G_want_of (by decide)) m24 F24.kp b24 G_Estate_house_rows MM17 bM17 G_Estate_entries_in MM25 bM25
    have G__law_spare := ok_wspr (P := l.prog) (w := w) (K := K) (mg := mg) (base := base) (k := 1) F26 W q_sorted G__law_often m11 F11.kp b11
    exact ok_law (P := l.prog) (w := w) (K := K) (mg := mg) (base := base) (k := 8) (Ts := [T18, T25]) (T := T25) (Tf := T18) (CE := CE) (CH := CH) (CB := CB) F27 W (by simp) (by simp) G__law_made m21 F21.kp b21 (FnOk.mono (k := 8) G__law_seen (by decide)) m22 F22.kp b22 (FnOk.mono (k := 8) G__law_behind (by decide)) m23 F23.kp b23 (FnOk.mono (k := 8) G__law_take (by decide)) m2 F2.kp b2 (FnOk.mono (k := 8) G__law_gang (by decide)) m8 F8.kp b8 (FnOk.mono (k := 8) G_spare_houses (by decide)) m25 F25.kp b25 (FnOk.mono (k := 8) G__law_spare (by decide)) m26 F26.kp b26
end My
namespace My
open PySem PySem.Spec PyProof.Rows L2 GX GxR XI
set_option maxHeartbeats 40000000 in
theorem hxLaw {loose : List Str} {mean : ExcName → Option Value} {w : World} {K : PySem.W.Frag} {h : Heap} {mg mb : Str → Option Value} {fa : Addr} (X : K.In h) (Z : PyProof.Rows.Top hxV loose mean mg mb h) (hfa : mg "law" = some (.ref fa)) (c : He.SaysX hxA hxF [] hxT hxE w h K) (eI : inObs "TooMuch" K = inVal "TooMuch.__init__" sI2) : LamX.LawAtS rwL w K CX0 9 63 "_law_script" mg fa h := by
  have D := He.SaysT.d c.t
  have m := c.more
  unfold hxE at m
  obtain ⟨mR, m⟩ := He.ba m
  obtain ⟨mh0, m⟩ := He.ba m
  obtain ⟨mh1, m⟩ := He.ba m
  obtain ⟨mh2, m⟩ := He.ba m
  obtain ⟨mh5, m⟩ := He.ba m
  obtain ⟨mN, m⟩ := He.ba m
  obtain ⟨mI, m⟩ := He.ba m
  obtain ⟨mB, m⟩ := He.ba m
  obtain ⟨mH, m⟩ := He.ba m
  have mE := m
  obtain ⟨oc1, od1, kV1, dc1, pm1, an1, cd1, ct1, sl1, l1, e1, k1⟩ := hx_fun (x := "_law_box") (q := "_law_box") (st := sBox) (f := He.ga K "_law_box") (D.def_ 0 (d := dfD "_law_box" sBox) rfl)
  obtain ⟨oc2, od2, kV2, dc2, pm2, an2, cd2, ct2, sl2, l2, e2, k2⟩ := hx_fun (x := "_law_take") (q := "_law_take") (st := sTake) (f := He.ga K "_law_take") (D.def_ 1 (d := dfD "_law_take" sTake) rfl)
  obtain ⟨oc3, od3, kV3, dc3, pm3, an3, cd3, ct3, sl3, l3, e3, k3⟩ := hx_fun (x := "_law_name") (q := "_law_name") (st := s_scNam) (f := He.ga K "_law_name") (D.def_ 2 (d := dfD "_law_name" s_scNam) rfl)
  obtain ⟨oc4, od4, kV4, dc4, pm4, an4, cd4, ct4, sl4, l4, e4, k4⟩ := hx_fun (x := "_law_amount") (q := "_law_amount") (st := s_scAmt) (f := He.ga K "_law_amount") (D.def_ 3 (d := dfD "_law_amount" s_scAmt) rfl)
  obtain ⟨oc5, od5, kV5, dc5, pm5, an5, cd5, ct5, sl5, l5, e5, k5⟩ := hx_fun (x := "_law_kinds") (q := "_law_kinds") (st := s_scKnd) (f := He.ga K "_law_kinds") (D.def_ 4 (d := dfD "_law_kinds" s_scKnd) rfl)
  obtain ⟨oc6, od6, kV6, dc6, pm6, an6, cd6, ct6, sl6, l6, e6, k6⟩ := hx_fun (x := "_law_house") (q := "_law_house") (st := s_scHou) (f := He.ga K "_law_house") (D.def_ 5 (d := dfD "_law_house" s_scHou) rfl)
  obtain ⟨oc7, od7, kV7, dc7, pm7, an7, cd7, ct7, sl7, l7, e7, k7⟩ := hx_fun (x := "_law_want") (q := "_law_want") (st := s_scWnt) (f := He.ga K "_law_want") (D.def_ 6 (d := dfD "_law_want" s_scWnt) rfl)
  obtain ⟨oc8, od8, kV8, dc8, pm8, an8, cd8, ct8, sl8, l8, e8, k8⟩ := hx_fun (x := "_law_gang") (q := "_law_gang") (st := s_scGng) (f := He.ga K "_law_gang") (D.def_ 7 (d := dfD "_law_gang" s_scGng) rfl)
  obtain ⟨oc9, od9, kV9, dc9, pm9, an9, cd9, ct9, sl9, l9, e9, k9⟩ := hx_fun (x := "_law_load") (q := "_law_load") (st := s_scLod) (f := He.ga K "_law_load") (D.def_ 8 (d := dfD "_law_load" s_scLod) rfl)
  obtain ⟨oc10, od10, kV10, dc10, pm10, an10, cd10, ct10, sl10, l10, e10, k10⟩ := hx_fun (x := "_law_left") (q := "_law_left") (st := s_scLef) (f := He.ga K "_law_left") (D.def_ 9 (d := dfD "_law_left" s_scLef) rfl)
  obtain ⟨oc11, od11, kV11, dc11, pm11, an11, cd11, ct11, sl11, l11, e11, k11⟩ := hx_fun (x := "_law_often") (q := "_law_often") (st := s_scOft) (f := He.ga K "_law_often") (D.def_ 10 (d := dfD "_law_often" s_scOft) rfl)
  obtain ⟨oc12, od12, kV12, dc12, pm12, an12, cd12, ct12, sl12, l12, e12, k12⟩ := hx_fun (x := "amount_times") (q := "amount_times") (st := s_scTimes) (f := He.ga K "amount_times") (D.def_ 11 (d := dfD "amount_times" s_scTimes) rfl)
  obtain ⟨oc13, od13, kV13, dc13, pm13, an13, cd13, ct13, sl13, l13, e13, k13⟩ := hx_fun (x := "nothing_of") (q := "nothing_of") (st := s_scNothing) (f := He.ga K "nothing_of") (D.def_ 12 (d := dfD "nothing_of" s_scNothing) rfl)
  obtain ⟨oc14, od14, kV14, dc14, pm14, an14, cd14, ct14, sl14, l14, e14, k14⟩ := hx_fun (x := "turns_of") (q := "turns_of") (st := s_scTurns) (f := He.ga K "turns_of") (D.def_ 13 (d := dfD "turns_of" s_scTurns) rfl)
  obtain ⟨oc15, od15, kV15, dc15, pm15, an15, cd15, ct15, sl15, l15, e15, k15⟩ := hx_fun (x := "amount_sum") (q := "amount_sum") (st := s_scSum) (f := He.ga K "amount_sum") (D.def_ 14 (d := dfD "amount_sum" s_scSum) rfl)
  obtain ⟨oc16, od16, kV16, dc16, pm16, an16, cd16, ct16, sl16, l16, e16, k16⟩ := hx_fun (x := "amount_less") (q := "amount_less") (st := s_scLess) (f := He.ga K "amount_less") (D.def_ 15 (d := dfD "amount_less" s_scLess) rfl)
  obtain ⟨oc17, od17, kV17, dc17, pm17, an17, cd17, ct17, sl17, l17, e17, k17⟩ := hx_fun (x := "loads_of") (q := "loads_of") (st := s_scLoads) (f := He.ga K "loads_of") (D.def_ 16 (d := dfD "loads_of" s_scLoads) rfl)
  obtain ⟨oc18, od18, kV18, dc18, pm18, an18, cd18, ct18, sl18, l18, e18, k18⟩ := hx_fun (x := "amount_fits") (q := "amount_fits") (st := s_scFits) (f := He.ga K "amount_fits") (D.def_ 17 (d := dfD "amount_fits" s_scFits) rfl)
  obtain ⟨c18, rfl⟩ := He.codeIn_ref e18
  have q18 := He.codeOf_eq (p := ("amount_fits", Option.none)) l18 rfl
  have w18 := c.hd ("amount_fits", Option.none) (by unfold hxT; simp)
  have n18 := c.out ("amount_fits", Option.none) (by unfold hxT; simp)
  change PySem.W.codeHdIn K (He.codeOf K ("amount_fits", Option.none)) (He.tabOf K (He.codeOf K ("amount_fits", Option.none))) = true at w18
  change List.lookup (He.tabOf K (He.codeOf K ("amount_fits", Option.none))) K = Option.none at n18
  rw [q18] at w18 n18
  obtain ⟨ec18, ed18, vs18, es18, u18, v18⟩ := hx_tab w18
  have r18 : ((recsOf hxV).any fun e => e.name == ("amount_fits" : Str)) = true := by decide +kernel
  obtain ⟨oc19, od19, kV19, dc19, pm19, an19, cd19, ct19, sl19, l19, e19, k19⟩ := hx_fun (x := "first_over") (q := "first_over") (st := s_scFirst) (f := He.ga K "first_over") (D.def_ 18 (d := dfD "first_over" s_scFirst) rfl)
  obtain ⟨oc20, od20, kV20, dc20, pm20, an20, cd20, ct20, sl20, l20, e20, k20⟩ := hx_fun (x := "_law_booked") (q := "_law_booked") (st := s_scBkW) (f := He.ga K "_law_booked") (D.def_ 19 (d := dfD "_law_booked" s_scBkW) rfl)
  obtain ⟨oc21, od21, kV21, dc21, pm21, an21, cd21, ct21, sl21, l21, e21, k21⟩ := hx_fun (x := "_law_made") (q := "_law_made") (st := s_scMad) (f := He.ga K "_law_made") (D.def_ 20 (d := dfD "_law_made" s_scMad) rfl)
  obtain ⟨oc22, od22, kV22, dc22, pm22, an22, cd22, ct22, sl22, l22, e22, k22⟩ := hx_fun (x := "_law_seen") (q := "_law_seen") (st := s_scSee) (f := He.ga K "_law_seen") (D.def_ 21 (d := dfD "_law_seen" s_scSee) rfl)
  obtain ⟨oc23, od23, kV23, dc23, pm23, an23, cd23, ct23, sl23, l23, e23, k23⟩ := hx_fun (x := "_law_behind") (q := "_law_behind") (st := s_scBeh) (f := He.ga K "_law_behind") (D.def_ 22 (d := dfD "_law_behind" s_scBeh) rfl)
  obtain ⟨oc24, od24, kV24, dc24, pm24, an24, cd24, ct24, sl24, l24, e24, k24⟩ := hx_fun (x := "want_of") (q := "want_of") (st := s_scWOf) (f := He.ga K "want_of") (D.def_ 23 (d := dfD "want_of" s_scWOf) rfl)
  obtain ⟨oc25, od25, kV25, dc25, pm25, an25, cd25, ct25, sl25, l25, e25, k25⟩ := hx_fun (x := "spare_houses") (q := "spare_houses") (st := s_scShs) (f := He.ga K "spare_houses") (D.def_ 24 (d := dfD "spare_houses" s_scShs) rfl)
  obtain ⟨c25, rfl⟩ := He.codeIn_ref e25
  have q25 := He.codeOf_eq (p := ("spare_houses", Option.none)) l25 rfl
  have w25 := c.hd ("spare_houses", Option.none) (by unfold hxT; simp)
  have n25 := c.out ("spare_houses", Option.none) (by unfold hxT; simp)
  change PySem.W.codeHdIn K (He.codeOf K ("spare_houses", Option.none)) (He.tabOf K (He.codeOf K ("spare_houses", Option.none))) = true at w25
  change List.lookup (He.tabOf K (He.codeOf K ("spare_houses", Option.none))) K = Option.none at n25
  rw [q25] at w25 n25
  obtain ⟨ec25, ed25, vs25, es25, u25, v25⟩ := hx_tab w25
  have r25 : ((recsOf hxV).any fun e => e.name == ("spare_houses" : Str)) = true := by decide +kernel
  obtain ⟨oc26, od26, kV26, dc26, pm26, an26, cd26, ct26, sl26, l26, e26, k26⟩ := hx_fun (x := "_law_spare") (q := "_law_spare") (st := s_scSpr) (f := He.ga K "_law_spare") (D.def_ 25 (d := dfD "_law_spare" s_scSpr) rfl)
  obtain ⟨oc27, od27, kV27, dc27, pm27, an27, cd27, ct27, sl27, l27, e27, k27⟩ := hx_fun (x := "law") (q := "law") (st := s_scLaw) (f := He.ga K "law") (D.def_ 26 (d := dfD "law" s_scLaw) rfl)
  obtain ⟨ocM1, odM1, kVM1, dcM1, pmM1, anM1, cdM1, ctM1, slM1, lM1, eM1, kM1⟩ := hx_fun (x := "__init__") (q := "Estate.__init__") (st := s_scEInit) (f := He.ma K (He.ga K "Estate") "__init__") (D.def_ 27 (d := mtD "Estate" "__init__" "Estate.__init__" s_scEInit) rfl)
  obtain ⟨ocM2, odM2, kVM2, dcM2, pmM2, anM2, cdM2, ctM2, slM2, lM2, eM2, kM2⟩ := hx_fun (x := "is_booked") (q := "Estate.is_booked") (st := s_scIsB) (f := He.ma K (He.ga K "Estate") "is_booked") (D.def_ 28 (d := mtD "Estate" "is_booked" "Estate.is_booked" s_scIsB) rfl)
  obtain ⟨ocM3, odM3, kVM3, dcM3, pmM3, anM3, cdM3, ctM3, slM3, lM3, eM3, kM3⟩ := hx_fun (x := "house_of") (q := "Estate.house_of") (st := s_scHOf) (f := He.ma K (He.ga K "Estate") "house_of") (D.def_ 29 (d := mtD "Estate" "house_of" "Estate.house_of" s_scHOf) rfl)
  obtain ⟨ocM4, odM4, kVM4, dcM4, pmM4, anM4, cdM4, ctM4, slM4, lM4, eM4, kM4⟩ := hx_fun (x := "__init__") (q := "Book.__init__") (st := s_scInit) (f := He.ma K (He.ga K "Book") "__init__") (D.def_ 30 (d := mtD "Book" "__init__" "Book.__init__" s_scInit) rfl)
  obtain ⟨ocM5, odM5, kVM5, dcM5, pmM5, anM5, cdM5, ctM5, slM5, lM5, eM5, kM5⟩ := hx_fun (x := "twin_book") (q := "Book.twin_book") (st := s_scTwin) (f := He.ma K (He.ga K "Book") "twin_book") (D.def_ 31 (d := mtD "Book" "twin_book" "Book.twin_book" s_scTwin) rfl)
  obtain ⟨ocM6, odM6, kVM6, dcM6, pmM6, anM6, cdM6, ctM6, slM6, lM6, eM6, kM6⟩ := hx_fun (x := "twin_books") (q := "Estate.twin_books") (st := s_scTwB) (f := He.ma K (He.ga K "Estate") "twin_books") (D.def_ 32 (d := mtD "Estate" "twin_books" "Estate.twin_books" s_scTwB) rfl)
  obtain ⟨ocM7, odM7, kVM7, dcM7, pmM7, anM7, cdM7, ctM7, slM7, lM7, eM7, kM7⟩ := hx_fun (x := "keep_entry") (q := "Book.keep_entry") (st := s_scKeep) (f := He.ma K (He.ga K "Book") "keep_entry") (D.def_ 33 (d := mtD "Book" "keep_entry" "Book.keep_entry" s_scKeep) rfl)
  obtain ⟨ocM8, odM8, kVM8, dcM8, pmM8, anM8, cdM8, ctM8, slM8, lM8, eM8, kM8⟩ := hx_fun (x := "put_entry") (q := "Book.put_entry") (st := s_scPut) (f := He.ma K (He.ga K "Book") "put_entry") (D.def_ 34 (d := mtD "Book" "put_entry" "Book.put_entry" s_scPut) rfl)
  obtain ⟨ocM9, odM9, kVM9, dcM9, pmM9, anM9, cdM9, ctM9, slM9, lM9, eM9, kM9⟩ := hx_fun (x := "keep_books") (q := "Estate.keep_books") (st := s_scKeepB) (f := He.ma K (He.ga K "Estate") "keep_books") (D.def_ 35 (d := mtD "Estate" "keep_books" "Estate.keep_books" s_scKeepB) rfl)
  obtain ⟨ocM10, odM10, kVM10, dcM10, pmM10, anM10, cdM10, ctM10, slM10, lM10, eM10, kM10⟩ := hx_fun (x := "keep_placing") (q := "Estate.keep_placing") (st := s_scKeepP) (f := He.ma K (He.ga K "Estate") "keep_placing") (D.def_ 36 (d := mtD "Estate" "keep_placing" "Estate.keep_placing" s_scKeepP) rfl)
  obtain ⟨ocM11, odM11, kVM11, dcM11, pmM11, anM11, cdM11, ctM11, slM11, lM11, eM11, kM11⟩ := hx_fun (x := "book_gang") (q := "Estate.book_gang") (st := s_scBook) (f := He.ma K (He.ga K "Estate") "book_gang") (D.def_ 37 (d := mtD "Estate" "book_gang" "Estate.book_gang" s_scBook) rfl)
  obtain ⟨ocM12, odM12, kVM12, dcM12, pmM12, anM12, cdM12, ctM12, slM12, lM12, eM12, kM12⟩ := hx_fun (x := "__init__") (q := "House.__init__") (st := s_scHInit) (f := He.ma K (He.ga K "House") "__init__") (D.def_ 38 (d := mtD "House" "__init__" "House.__init__" s_scHInit) rfl)
  obtain ⟨ocM13, odM13, kVM13, dcM13, pmM13, anM13, cdM13, ctM13, slM13, lM13, eM13, kM13⟩ := hx_fun (x := "add_house") (q := "Estate.add_house") (st := s_scAdd) (f := He.ma K (He.ga K "Estate") "add_house") (D.def_ 39 (d := mtD "Estate" "add_house" "Estate.add_house" s_scAdd) rfl)
  obtain ⟨ocM14, odM14, kVM14, dcM14, pmM14, anM14, cdM14, ctM14, slM14, lM14, eM14, kM14⟩ := hx_fun (x := "set_state") (q := "Estate.set_state") (st := s_scSet) (f := He.ma K (He.ga K "Estate") "set_state") (D.def_ 40 (d := mtD "Estate" "set_state" "Estate.set_state" s_scSet) rfl)
  obtain ⟨ocM15, odM15, kVM15, dcM15, pmM15, anM15, cdM15, ctM15, slM15, lM15, eM15, kM15⟩ := hx_fun (x := "rising_houses") (q := "Estate.rising_houses") (st := s_scRise) (f := He.ma K (He.ga K "Estate") "rising_houses") (D.def_ 41 (d := mtD "Estate" "rising_houses" "Estate.rising_houses" s_scRise) rfl)
  obtain ⟨ocM16, odM16, kVM16, dcM16, pmM16, anM16, cdM16, ctM16, slM16, lM16, eM16, kM16⟩ := hx_fun (x := "whole_room") (q := "Book.whole_room") (st := s_scWRoom) (f := He.ma K (He.ga K "Book") "whole_room") (D.def_ 42 (d := mtD "Book" "whole_room" "Book.whole_room" s_scWRoom) rfl)
  obtain ⟨ocM17, odM17, kVM17, dcM17, pmM17, anM17, cdM17, ctM17, slM17, lM17, eM17, kM17⟩ := hx_fun (x := "house_rows") (q := "Estate.house_rows") (st := s_scHRows) (f := He.ma K (He.ga K "Estate") "house_rows") (D.def_ 43 (d := mtD "Estate" "house_rows" "Estate.house_rows" s_scHRows) rfl)
  obtain ⟨ocM18, odM18, kVM18, dcM18, pmM18, anM18, cdM18, ctM18, slM18, lM18, eM18, kM18⟩ := hx_fun (x := "placing_of") (q := "Estate.placing_of") (st := s_scPlOf) (f := He.ma K (He.ga K "Estate") "placing_of") (D.def_ 44 (d := mtD "Estate" "placing_of" "Estate.placing_of" s_scPlOf) rfl)
  obtain ⟨ocM19, odM19, kVM19, dcM19, pmM19, anM19, cdM19, ctM19, slM19, lM19, eM19, kM19⟩ := hx_fun (x := "entry_of") (q := "Book.entry_of") (st := s_scEOf) (f := He.ma K (He.ga K "Book") "entry_of") (D.def_ 45 (d := mtD "Book" "entry_of" "Book.entry_of" s_scEOf) rfl)
  obtain ⟨ocM20, odM20, kVM20, dcM20, pmM20, anM20, cdM20, ctM20, slM20, lM20, eM20, kM20⟩ := hx_fun (x := "stretch_of") (q := "Estate.stretch_of") (st := s_scStOf) (f := He.ma K (He.ga K "Estate") "stretch_of") (D.def_ 46 (d := mtD "Estate" "stretch_of" "Estate.stretch_of" s_scStOf) rfl)
  obtain ⟨ocM21, odM21, kVM21, dcM21, pmM21, anM21, cdM21, ctM21, slM21, lM21, eM21, kM21⟩ := hx_fun (x := "booked_rows") (q := "Estate.booked_rows") (st := s_scBRows) (f := He.ma K (He.ga K "Estate") "booked_rows") (D.def_ 47 (d := mtD "Estate" "booked_rows" "Estate.booked_rows" s_scBRows) rfl)
  obtain ⟨ocM22, odM22, kVM22, dcM22, pmM22, anM22, cdM22, ctM22, slM22, lM22, eM22, kM22⟩ := hx_fun (x := "load_at") (q := "Book.load_at") (st := s_scLoadAt) (f := He.ma K (He.ga K "Book") "load_at") (D.def_ 48 (d := mtD "Book" "load_at" "Book.load_at" s_scLoadAt) rfl)
  obtain ⟨ocM23, odM23, kVM23, dcM23, pmM23, anM23, cdM23, ctM23, slM23, lM23, eM23, kM23⟩ := hx_fun (x := "house_loads") (q := "Estate.house_loads") (st := s_scHLoads) (f := He.ma K (He.ga K "Estate") "house_loads") (D.def_ 49 (d := mtD "Estate" "house_loads" "Estate.house_loads" s_scHLoads) rfl)
  obtain ⟨ocM24, odM24, kVM24, dcM24, pmM24, anM24, cdM24, ctM24, slM24, lM24, eM24, kM24⟩ := hx_fun (x := "entry_rows") (q := "Book.entry_rows") (st := s_scERows) (f := He.ma K (He.ga K "Book") "entry_rows") (D.def_ 50 (d := mtD "Book" "entry_rows" "Book.entry_rows" s_scERows) rfl)
  obtain ⟨ocM25, odM25, kVM25, dcM25, pmM25, anM25, cdM25, ctM25, slM25, lM25, eM25, kM25⟩ := hx_fun (x := "entries_in") (q := "Estate.entries_in") (st := s_scEIn) (f := He.ma K (He.ga K "Estate") "entries_in") (D.def_ 51 (d := mtD "Estate" "entries_in" "Estate.entries_in" s_scEIn) rfl)
  have a1 := hx_glo (D.fact 0 (f := .glo "_law_box") rfl)
  have a2 := hx_glo (D.fact 1 (f := .glo "_law_take") rfl)
  have a3 := hx_glo (D.fact 2 (f := .glo "_law_name") rfl)
  have a4 := hx_glo (D.fact 3 (f := .glo "_law_amount") rfl)
  have a5 := hx_glo (D.fact 4 (f := .glo "_law_kinds") rfl)
  have a6 := hx_glo (D.fact 5 (f := .glo "_law_house") rfl)
  have a7 := hx_glo (D.fact 6 (f := .glo "_law_want") rfl)
  have a8 := hx_glo (D.fact 7 (f := .glo "_law_gang") rfl)
  have a9 := hx_glo (D.fact 8 (f := .glo "_law_load") rfl)
  have a10 := hx_glo (D.fact 9 (f := .glo "_law_left") rfl)
  have a11 := hx_glo (D.fact 10 (f := .glo "_law_often") rfl)
  have a12 := hx_glo (D.fact 11 (f := .glo "amount_times") rfl)
  have a13 := hx_glo (D.fact 12 (f := .glo "nothing_of") rfl)
  have a14 := hx_glo (D.fact 13 (f := .glo "turns_of") rfl)
  have a15 := hx_glo (D.fact 14 (f := .glo "amount_sum") rfl)
  have a16 := hx_glo (D.fact 15 (f := .glo "amount_less") rfl)
  have a17 := hx_glo (D.fact 16 (f := .glo "loads_of") rfl)
  have a18 := hx_glo (D.fact 17 (f := .glo "amount_fits") rfl)
  have a19 := hx_glo (D.fact 18 (f := .glo "first_over") rfl)
  have a20 := hx_glo (D.fact 19 (f := .glo "_law_booked") rfl)
  have a21 := hx_glo (D.fact 20 (f := .glo "_law_made") rfl)
  have a22 := hx_glo (D.fact 21 (f := .glo "_law_seen") rfl)
  have a23 := hx_glo (D.fact 22 (f := .glo "_law_behind") rfl)
  have a24 := hx_glo (D.fact 23 (f := .glo "want_of") rfl)
  have a25 := hx_glo (D.fact 24 (f := .glo "spare_houses") rfl)
  have a26 := hx_glo (D.fact 25 (f := .glo "_law_spare") rfl)
  have a27 := hx_glo (D.fact 26 (f := .glo "law") rfl)
  have z1 := hx_free (D.fact 27 (f := .free "len") rfl)
  have z2 := hx_free (D.fact 28 (f := .free "abs") rfl)
  have z3 := hx_free (D.fact 29 (f := .free "isinstance") rfl)
  have z4 := hx_free (D.fact 30 (f := .free "list") rfl)
  have z5 := hx_free (D.fact 31 (f := .free "tuple") rfl)
  have z6 := hx_free (D.fact 32 (f := .free "zip") rfl)
  have z7 := hx_free (D.fact 33 (f := .free "all") rfl)
  have z8 := hx_free (D.fact 34 (f := .free "str") rfl)
  have z9 := hx_free (D.fact 35 (f := .free "int") rfl)
  have z10 := hx_free (D.fact 36 (f := .free "bool") rfl)
  have z11 := hx_free (D.fact 37 (f := .free "max") rfl)
  have z12 := hx_free (D.fact 38 (f := .free "min") rfl)
  have z13 := hx_free (D.fact 39 (f := .free "range") rfl)
  have z14 := hx_free (D.fact 40 (f := .free "sum") rfl)
  have z15 := hx_free (D.fact 41 (f := .free "dict") rfl)
  have z16 := hx_free (D.fact 42 (f := .free "sorted") rfl)
  have z17 := hx_free (D.fact 43 (f := .free "enumerate") rfl)
  have z18 := hx_free (D.fact 44 (f := .free "any") rfl)
  have z19 := hx_free (D.fact 45 (f := .free "super") rfl)
  obtain ⟨tk_y1, y1⟩ := hx_int (D.fact 46 (f := .int "ENDS" 0) rfl)
  obtain ⟨tk_y2, y2⟩ := hx_int (D.fact 47 (f := .int "BEGINS" 1) rfl)
  obtain ⟨tk_y3, y3⟩ := hx_str (D.fact 48 (f := .str "OPEN" "open") rfl)
  have x0 := hx_glo (D.fact 49 (f := .glo "Taken") rfl)
  have x1 := hx_glo (D.fact 50 (f := .glo "NoHouse") rfl)
  have x2 := hx_glo (D.fact 51 (f := .glo "NoGang") rfl)
  have x3 := hx_glo (D.fact 52 (f := .glo "TooMuch") rfl)
  have x4 := hx_glo (D.fact 53 (f := .glo "HallError") rfl)
  have x5 := hx_glo (D.fact 54 (f := .glo "NoKey") rfl)
  have xCB := hx_glo (D.fact 55 (f := .glo "Book") rfl)
  have xCH := hx_glo (D.fact 56 (f := .glo "House") rfl)
  have xCE := hx_glo (D.fact 57 (f := .glo "Estate") rfl)
  obtain ⟨aM1, nM1, _⟩ := hx_meth (D.fact 58 (f := .meth "Estate" "__init__") rfl)
  obtain ⟨aM2, nM2, _⟩ := hx_meth (D.fact 59 (f := .meth "Estate" "is_booked") rfl)
  obtain ⟨aM3, nM3, _⟩ := hx_meth (D.fact 60 (f := .meth "Estate" "house_of") rfl)
  obtain ⟨aM4, nM4, _⟩ := hx_meth (D.fact 61 (f := .meth "Book" "__init__") rfl)
  obtain ⟨aM5, nM5, _⟩ := hx_meth (D.fact 62 (f := .meth "Book" "twin_book") rfl)
  obtain ⟨aM6, nM6, _⟩ := hx_meth (D.fact 63 (f := .meth "Estate" "twin_books") rfl)
  obtain ⟨aM7, nM7, _⟩ := hx_meth (D.fact 64 (f := .meth "Book" "keep_entry") rfl)
  obtain ⟨aM8, nM8, _⟩ := hx_meth (D.fact 65 (f := .meth "Book" "put_entry") rfl)
  obtain ⟨aM9, nM9, _⟩ := hx_meth (D.fact 66 (f := .meth "Estate" "keep_books") rfl)
  obtain ⟨aM10, nM10, _⟩ := hx_meth (D.fact 67 (f := .meth "Estate" "keep_placing") rfl)
  obtain ⟨aM11, nM11, _⟩ := hx_meth (D.fact 68 (f := .meth "Estate" "book_gang") rfl)
  obtain ⟨aM12, nM12, _⟩ := hx_meth (D.fact 69 (f := .meth "House" "__init__") rfl)
  obtain ⟨aM13, nM13, _⟩ := hx_meth (D.fact 70 (f := .meth "Estate" "add_house") rfl)
  obtain ⟨aM14, nM14, _⟩ := hx_meth (D.fact 71 (f := .meth "Estate" "set_state") rfl)
  obtain ⟨aM15, nM15, _⟩ := hx_meth (D.fact 72 (f := .meth "Estate" "rising_houses") rfl)
  obtain ⟨aM16, nM16, _⟩ := hx_meth (D.fact 73 (f := .meth "Book" "whole_room") rfl)
  obtain ⟨aM17, nM17, _⟩ := hx_meth (D.fact 74 (f := .meth "Estate" "house_rows") rfl)
  obtain ⟨aM18, nM18, _⟩ := hx_meth (D.fact 75 (f := .meth "Estate" "placing_of") rfl)
  obtain ⟨aM19, nM19, _⟩ := hx_meth (D.fact 76 (f := .meth "Book" "entry_of") rfl)
  obtain ⟨aM20, nM20, _⟩ := hx_meth (D.fact 77 (f := .meth "Estate" "stretch_of") rfl)
  obtain ⟨aM21, nM21, _⟩ := hx_meth (D.fact 78 (f := .meth "Estate" "booked_rows") rfl)
  obtain ⟨aM22, nM22, _⟩ := hx_meth (D.fact 79 (f := .meth "Book" "load_at") rfl)
  obtain ⟨aM23, nM23, _⟩ := hx_meth (D.fact 80 (f := .meth "Estate" "house_loads") rfl)
  obtain ⟨aM24, nM24, _⟩ := hx_meth (D.fact 81 (f := .meth "Book" "entry_rows") rfl)
  obtain ⟨aM25, nM25, _⟩ := hx_meth (D.fact 82 (f := .meth "Estate" "entries_in") rfl)
  obtain ⟨_, _, _, _, _, _, _, _, _, _, _, _, _, _, _, _, _, _, _, _, _, _, _, _, _, _, _, _, _, _, _, _, _, la2, lb2, ii2, lc2, ld2, le2, lg2, li2, lj2⟩ := in_ok (st := sI2) mI eI
  exact all_mk (l := rwL) X Z hfa a1 l1 e1 k1 a2 l2 e2 k2 a3 l3 e3 k3 a4 l4 e4 k4 a5 l5 e5 k5 a6 l6 e6 k6 a7 l7 e7 k7 a8 l8 e8 k8 a9 l9 e9 k9 a10 l10 e10 k10 a11 l11 e11 k11 a12 l12 e12 k12 a13 l13 e13 k13 a14 l14 e14 k14 a15 l15 e15 k15 a16 l16 e16 k16 a17 l17 e17 k17 a18 l18 e18 k18 u18 v18 n18 r18 a19 l19 e19 k19 a20 l20 e20 k20 a21 l21 e21 k21 a22 l22 e22 k22 a23 l23 e23 k23 a24 l24 e24 k24 a25 l25 e25 k25 u25 v25 n25 r25 a26 l26 e26 k26 a27 l27 e27 k27 z1 z2 z3 z4 z5 z6 z7 z8 z9 z10 z11 z12 z13 z14 z15 z16 z17 z18 z19 y1 y2 y3 x0 x1 x2 x3 x4 x5 (by decide +kernel) mR mh0 mh1 mh2 mh5 (of_decide_eq_true mN) la2 lb2 ii2 lc2 ld2 le2 lg2 (beq_self_eq_true _) li2 lj2 xCB xCH xCE mB mH mE aM1 lM1 eM1 kM1 nM1 aM2 lM2 eM2 kM2 nM2 aM3 lM3 eM3 kM3 nM3 aM4 lM4 eM4 kM4 nM4 aM5 lM5 eM5 kM5 nM5 aM6 lM6 eM6 kM6 nM6 aM7 lM7 eM7 kM7 nM7 aM8 lM8 eM8 kM8 nM8 aM9 lM9 eM9 kM9 nM9 aM10 lM10 eM10 kM10 nM10 aM11 lM11 eM11 kM11 nM11 aM12 lM12 eM12 kM12 nM12 aM13 lM13 eM13 kM13 nM13 aM14 lM14 eM14 kM14 nM14 aM15 lM15 eM15 kM15 nM15 aM16 lM16 eM16 kM16 nM16 aM17 lM17 eM17 kM17 nM17 aM18 lM18 eM18 kM18 nM18 aM19 lM19 eM19 kM19 nM19 aM20 lM20 eM20 kM20 nM20 aM21 lM21 eM21 kM21 nM21 aM22 lM22 eM22 kM22 nM22 aM23 lM23 eM23 kM23 nM23 aM24 lM24 eM24 kM24 nM24 aM25 lM25 eM25 kM25 nM25
end My
open PySem PySem.W PySem.Calls PyProof.Rows
set_option maxHeartbeats 0 in
theorem PySem.Challenge.cw_clusterhall_k51_spare_houses_holds : PySem.Challenge.rw_clusterhall_k51_spare_houses.Holds := by
  w_on; o_law
  refine HandSHeadRun.head_any (r := OpenLaw.row PySem.Challenge.rw_clusterhall_k51_spare_houses) (q := My.hxV) (H := My.hxH) (ob := My.hxO) (M := 20000) (loose := My.hxN) (d := HandSHeadRun.topDef (OpenLaw.row PySem.Challenge.rw_clusterhall_k51_spare_houses).prog 50) (kwd := []) (fun s => My.obM_eq s)
    (by kernel_rfl) (fun s => by kernel_rfl) My.hxRun (by kernel_rfl) (by kernel_rfl) (by kernel_rfl) (by rfl) (by first | assumption | decide +kernel) (by decide +kernel) ⟨rfl, rfl, rfl, rfl, rfl, by decide +kernel⟩ ?hw ?hc
  case hw => w_witness2
  case hc =>
    refine My.walk_tabsE (l := PySem.Challenge.rw_clusterhall_k51_spare_houses) (n := 63) (k := 9) (x := "_law_script") rfl (by decide) (by kernel_rfl) ⟨rfl, by decide, by decide⟩ ?F
    intro w mg mb mean fa h Z Y hmg0
    obtain ⟨K, KX, c, eI⟩ := Y
    have hmg : mg ("law" : PySem.Str) = some (.ref fa) := by
      have e : (HandSHeadRun.topDef (OpenLaw.row PySem.Challenge.rw_clusterhall_k51_spare_houses).prog 50).name = ("law" : PySem.Str) := by kernel_rfl
      rw [← e]
      exact hmg0
    exact ⟨K, KX, My.hxLaw KX Z hmg c eI⟩
