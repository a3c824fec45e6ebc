import PyProof.Rows.All
import Wide.All
import OpenK.AllK
import Wide.FinOn
import HandS.ForMost
import HandS.Zip
import HandS.AnyAll
import PyProof.TupleOfGen
import PyProof.GenCompT
import KE.GoesEnum
import HandS.IsInst
import HandS.Walk
import HandS.EndOwn
import HandS.TupMul
import HandS.Wide
import HandS.TupAny
import HandS.SortKw
import KE.DataMinMax
import KE.KEqSeq
import PyProof.StrBlock2
import HandS.SetBool
import HandS.SetIn
import KE.SortKeyHeap
import KE.SortData
import HandS.Rev
import HandS.SetFor
import KE.DataFind
import HandS.More
import PyProof.Rows.StrMeet
import HandS.Strs
import HandS.TupSets
import HandS.Dict
import KE.KDictPairs
import HandS.Codes
import HandS.GenList
import PyProof.P3Eq
import PyProof.ZipIter
import KE.KDictZip
import HandS.Style
import HandS.Star
import HandS.DictComp
import HandS.WordsDict
import PyProof.WalksPairs
import PyProof.ConsumeS
import PyProof.SetRoads
import HandS.Words
import PySem.Challenge.RW_clusterhall_k21_order_and_more_room
set_option Elab.async false
set_option linter.all false
set_option maxRecDepth 100000
set_option maxHeartbeats 2000000
namespace GX
open PySem PySem.Spec PyProof.Rows L2 GxR
/-- what the element of a generator expression meets: its own frame, and all that stood when the walked thing was made, but for the table at P -/
structure Ask (X : Cx) (scope : Scope) (P : Addr) (s1 : Shared) (cenv : Env) (s2 : Shared) (m2 : Str → Option Value) : Prop where
  sc : cenv.scope = scope
  gl : cenv.globals = X.env.globals
  bl : cenv.builtins = builtinsNs
  ce : cenv.cells = cloFrom X.env.cells scope.names []
  ns : s2.heap.Ns cenv.locals m2
  kp : ∀ b o, b ≠ P → s1.heap.get? b = some o → s2.heap.get? b = some o
  tb : ∃ ps, s1.heap.get? P = some { cls := .none, data := .fields ps }
/-- the element, over one name -/
def Elt1 (X : Cx) (scope : Scope) (P : Addr) (x : Str) (elt : Expr) (pre : L2.St → V → Prop) (g : L2.St → V → V) : Prop :=
  ∀ (pins : List (Addr × Obj)) (σ : L2.St) (H : Hp) (s1 : Shared) (cenv : Env) (B : Around) (Er : Value → Shared → Prop) (s2 : Shared) (m2 : Str → Option Value) (v : V) (u : Value),
    Inv X pins σ H s1 → Ask X scope P s1 cenv s2 m2 → B.handled = none → m2 x = some u → RelV v u → pre σ v →
    wpAny (model X.prog X.w) B (eval elt cenv) (fun y s3 => RelV (g σ v) y ∧ Keeps s2 s3) Er s2
/-- the element, over two names -/
def Elt2 (X : Cx) (scope : Scope) (P : Addr) (xa xb : Str) (elt : Expr) (pre : L2.St → V → V → Prop) (g : L2.St → V → V → V) : Prop :=
  ∀ (pins : List (Addr × Obj)) (σ : L2.St) (H : Hp) (s1 : Shared) (cenv : Env) (B : Around) (Er : Value → Shared → Prop) (s2 : Shared) (m2 : Str → Option Value) (v w : V) (u z : Value),
    Inv X pins σ H s1 → Ask X scope P s1 cenv s2 m2 → B.handled = none → m2 xa = some u → m2 xb = some z → RelV v u → RelV w z → pre σ v w →
    wpAny (model X.prog X.w) B (eval elt cenv) (fun y s3 => RelV (g σ v w) y ∧ Keeps s2 s3) Er s2
/-- the walked thing stands ready: its items are vs -/
def Begun (X : Cx) (P : Addr) (s1 : Shared) (vs : List V) (it : Value) (s2 : Shared) : Prop :=
  ∃ (Ia : Addr) (fp wr : List Addr) (Pf : Nat → Value → Prop) (Sf : Nat → Heap → Prop) (h2 : Heap) (t2 : Nat), it = .ref Ia ∧ s2 = { s1 with heap := h2, toks := t2 } ∧ (∀ b o, s1.heap.get? b = some o → h2.get? b = some o) ∧ s1.heap.objs.size ≤ h2.objs.size ∧
    (∀ B : Around, B.handled = none → Walks X.prog X.w B Ia fp wr vs.length Pf Sf) ∧ Sf 0 h2 ∧ (∀ b ∈ fp, b < h2.objs.size ∧ b ≠ P) ∧ (∀ b ∈ wr, s1.heap.objs.size ≤ b) ∧ ∀ i u, Pf i u → ∃ v, vs[i]? = some v ∧ RelV v u
/-- the same, its items pairs -/
def Begun2 (X : Cx) (P : Addr) (s1 : Shared) (vs : List (V × V)) (it : Value) (s2 : Shared) : Prop :=
  ∃ (Ia : Addr) (fp wr : List Addr) (Pf : Nat → Array Value → Prop) (Sf : Nat → Heap → Prop) (Mid : Nat → Addr → Heap → Prop) (h2 : Heap) (t2 : Nat), it = .ref Ia ∧ s2 = { s1 with heap := h2, toks := t2 } ∧ (∀ b o, s1.heap.get? b = some o → h2.get? b = some o) ∧ s1.heap.objs.size ≤ h2.objs.size ∧
    (∀ B : Around, B.handled = none → WalksU X.prog X.w B Ia fp wr vs.length Pf Sf Mid) ∧ Sf 0 h2 ∧ (∀ b ∈ fp, b < h2.objs.size ∧ b ≠ P) ∧ (∀ b ∈ wr, s1.heap.objs.size ≤ b) ∧ ∀ i us, Pf i us → ∃ v w u z, us = #[u, z] ∧ vs[i]? = some (v, w) ∧ RelV v u ∧ RelV w z
/-- a generator at g stands ready in s5; it will give the values of ws; H1: what was held before -/
def Ready (X : Cx) (pins : List (Addr × Obj)) (σ : L2.St) (H1 : Hp) (P : Addr) (ws : List V) (g : Addr) (s5 : Shared) : Prop :=
  ∃ (fp wr : List Addr) (G : Array GenState → Array GenState → Prop) (F : Nat → Value → Prop) (Sf : Nat → Shared → Prop),
    WalksS X.prog X.w X.A.in4 g fp wr G ws.length F Sf ∧ Sf 0 s5 ∧ (∀ b ∈ fp, b < s5.heap.objs.size) ∧ g ∈ fp ∧ (∀ i s9, Sf i s9 → s9.TypeIs (.ref g) "generator") ∧ (∀ j y, F j y → ∃ v, ws[j]? = some v ∧ RelV v y) ∧
    ∀ s', Moved wr G s5 s' → ∃ H2, Tabbed P H1 H2 ∧ Inv X pins σ H2 s'
/-- what the scope of a generator expression, with its first name x, is, within a def of the scope sc -/
structure GenV (sc scope : Scope) (x : Str) : Prop where
  kind : scope.kind = .function
  co : scope.isCoroutine = false
  cell : ∀ y ∈ scope.names, y.2 ≠ .cell
  dot : scope.names.lookup (".0" : Str) = some NameKind.local
  loc : scope.names.lookup x = some .local
  free : ∀ y ∈ scope.names, y.2 = .free → sc.names.lookup y.1 = some .cell ∨ sc.names.lookup y.1 = some .free
section
variable {X : Cx} {pins : List (Addr × Obj)} {σ : L2.St} {H : Hp} {s : Shared}
theorem GenV.to {scope : Scope} {x : Str} (S : GenV X.env.scope scope x) (I : Inv X pins σ H s) : GenS X.env scope x :=
  ⟨S.kind, S.co, S.cell, S.dot, S.loc, fun y hy e => by
    rcases S.free y hy e with k | k
    · exact I.ok.has _ (.inl k)
    · exact I.ok.has _ (.inr k)⟩
theorem all_pass (n : Nat) : passing (fun _ => true) n 0 = List.range n := by
  simp [passing]
theorem gen1 {c P : Addr} {elt iter : Expr} {x : Str} {px gpos : Pos} {scope : Scope} {pre : L2.St → V → Prop} {g : L2.St → V → V} {k : Nat} {Qg : Value → Shared → Prop}
    (hr : Room k X.A) (TB : TabB X.base X.mg c P) (hcode : X.env.code = .ref c) (S : GenS X.env scope x) (hel : Elt1 X scope P x elt pre g) (hs : ∀ v, genFold iter X.env v = pure v)
    (h : wpAny (model X.prog X.w) X.A (eval iter X.env) (fun xv sA => ∃ H1 s1, Inv X pins σ H1 s1 ∧ TabG H1 P ∧
      wpAny (model X.prog X.w) X.A (pyIter xv) (fun it s2 => ∃ vs, Begun X P s1 vs it s2 ∧ (∀ v ∈ vs, pre σ v) ∧ ∀ a s5, Ready X pins σ H1 P (vs.map (g σ)) a s5 → Qg (.ref a) s5) X.xe sA) X.xe s) :
    wpAny (model X.prog X.w) X.A (eval (.GeneratorExp elt [⟨.Name x px, iter, [], 0⟩] scope gpos) X.env) Qg X.xe s := by
  refine wpAny_GeneratorExp_walksQ hr.hd S.co (closure_ok S.free) S.cell S.dot S.loc S.kind (by have := hr.dp; omega) ?_ hs
  refine wpAny_mono h (fun xv sA h1 => ?_) (fun _ _ e => e)
  obtain ⟨H1, s1, I1, ⟨ps, hP, ht⟩, hit⟩ := h1
  refine wpAny_mono hit (fun it s2 h2 => ?_) (fun _ _ e => e)
  obtain ⟨vs, ⟨Ia, fp, wr, Pf, Sf, hp2, t2, rfl, rfl, kp, sz, W, st0, hfp, hwr, hPf⟩, hpre, hQ⟩ := h2
  have tabS : s1.heap.get? P = some { cls := .none, data := .fields ps } := I1.hok P _ hP
  have tabL : P < s1.heap.objs.size := Heap.lt_size tabS
  have tab2 : hp2.get? P = some { cls := .none, data := .fields ps } := kp _ _ tabS
  have cd : PySem.W.CodeHd hp2 c P := TB.code.keeps fun b u e => kp b u (I1.bk b u e)
  have lim : hp2.NoLimit := I1.nolimit.keeps kp
  refine ⟨lim, ?_⟩
  have cont : ∀ (code : Value) (h3 : Heap) (tk : Nat) (ps' : Array Value), Heap.ExtBut P hp2 h3 → hp2.objs.size ≤ h3.objs.size → h3.get? P = some { cls := .none, data := .fields ps' } → (∃ more, ps' = ps ++ more) → TriplesOk ps'.toList →
      wpAny (model X.prog X.w) X.A (builtinsFor X.env.globals X.env.builtins) (fun bi s4 =>
        ∃ I fp wr n0 P0 St0 pz F, Value.ref Ia = .ref I ∧ (∀ B : Around, B.handled = none → Walks X.prog X.w B I fp wr n0 P0 St0) ∧ St0 0 s4.heap ∧ (∀ b ∈ fp, b < s4.heap.objs.size) ∧ s4.heap.NoLimit ∧ cStatics ∉ wr ∧
          (∀ hf : Heap, (∀ b o, s4.heap.get? b = some o → hf.get? b = some o) →
            QuietGen X.prog X.w (genEnv scope (cloFrom X.env.cells scope.names []) s4.heap.objs.size code bi X.env) x [] elt (List.range s4.heap.objs.size) wr P0 pz F hf) ∧
          (∀ a h5 tk gs, gs.bare = true → s4.heap.objs.size < a → h5.objs.size = a + 1 → (∀ b o, s4.heap.get? b = some o → h5.get? b = some o) →
            WalksS X.prog X.w X.A.in4 a (a :: s4.heap.objs.size :: List.range s4.heap.objs.size) (s4.heap.objs.size :: wr) (GenOnlyQ s4.gens.size) (passing pz n0 0).length
              (fun j y => ∃ i, (passing pz n0 0)[j]? = some i ∧ F i y) (GenAt X.prog X.w X.A.in4 a s4.gens.size s4.heap.objs.size (List.range s4.heap.objs.size) wr pz n0 F) →
            GenAt X.prog X.w X.A.in4 a s4.gens.size s4.heap.objs.size (List.range s4.heap.objs.size) wr pz n0 F 0 { s4 with gens := s4.gens.push gs, toks := tk, heap := h5 } →
            Qg (.ref a) { s4 with gens := s4.gens.push gs, toks := tk, heap := h5 })) X.xe { s1 with heap := h3, toks := tk } := by
    intro code h3 tk ps' hx hsz hP3 hmore ht3
    obtain ⟨bm, ob, e1, e2, e3, e4, e5, e6, e7, e8⟩ := TB.bm
    have kp3 : ∀ b u, b ≠ P → s1.heap.get? b = some u → h3.get? b = some u := fun b u hb e => hx b u hb (kp b u e)
    have ncs : cStatics < s1.heap.objs.size := let ⟨_, hns, _⟩ := I1.nolimit; hns.lt
    have ncP : cStatics ≠ P := fun e => by
      obtain ⟨_, ⟨o', es, ep, ho, hd, _⟩, _⟩ := I1.nolimit
      rw [e, tabS] at ho
      cases ho
      cases hd
    refine wpAny_builtinsFor (m := X.mg) (by rw [I1.ok.glob]; exact ((I1.mod.glob.keeps I1.bk).keeps kp).extBut hx TB.gP) e1 e2 (kp3 _ _ e4 (I1.bk _ _ e5)) e6 e7 e8 ?_
    refine ⟨Ia, fp, wr, vs.length, Pf, Sf, (fun _ => true), (fun i y => ∃ v, vs[i]? = some v ∧ RelV (g σ v) y), rfl, W, ?_, fun b hb => Nat.lt_of_lt_of_le (hfp b hb).1 hsz, lim.extBut hx ncP, fun z => Nat.lt_irrefl _ (Nat.lt_of_lt_of_le ncs (hwr _ z)), ?_, ?_⟩
    · exact (W X.A hr.hd).frame _ _ _ st0 fun b hb u e => hx b u (hfp b hb).2 e
    · intro hf hkf
      refine ⟨fun B Er i v s2 m2 hB hv hn hm hk => ?_, fun B Er i v s2 m2 hB hv hp hn hm hk => ?_⟩
      · simp only [List.forIn_nil]
        exact wpAny_pure ⟨rfl, keeps_refl _⟩
      · obtain ⟨v', hv', rv⟩ := hPf i v hv
        have ask : Ask X scope P s1 (genEnv scope (cloFrom X.env.cells scope.names []) h3.objs.size code builtinsNs X.env) s2 m2 := by
          refine ⟨rfl, rfl, rfl, rfl, hn, fun b o hb e => ?_, ⟨ps, tabS⟩⟩
          have hl : b < s1.heap.objs.size := Heap.lt_size e
          refine hk b (List.mem_range.mpr (Nat.lt_of_lt_of_le hl (Nat.le_trans sz hsz))) (fun z => ?_) o (hkf b o (kp3 b o hb e))
          exact Nat.lt_irrefl _ (Nat.lt_of_lt_of_le hl (hwr b z))
        exact wpAny_mono (hel pins σ H1 s1 _ B Er s2 m2 v' v I1 ask hB hm rv (hpre v' (List.mem_of_getElem? hv'))) (fun y s3 r => ⟨⟨v', hv', r.1⟩, r.2⟩) fun _ _ e => e
    · intro a h5 tk5 gs hgb hag hsz5 hk5 W5 hat
      simp only [all_pass, List.length_range] at W5
      refine hQ a _ ⟨_, _, _, _, _, by rw [List.length_map]; exact W5, hat, fun b hb => ?_, List.mem_cons_self, fun i s9 st => ?_, fun j y hy => ?_, fun s' hm => ?_⟩
      · show b < h5.objs.size
        rcases List.mem_cons.mp hb with z | z
        · rw [z, hsz5]
          exact Nat.lt_succ_self _
        · rcases List.mem_cons.mp z with z | z
          · rw [z, hsz5]
            exact Nat.lt_succ_of_lt hag
          · rw [hsz5]
            exact Nat.lt_succ_of_lt (Nat.lt_trans (List.mem_range.mp z) hag)
      · exact st.1.typeIs
      · obtain ⟨i, hij, v, hv, ry⟩ := hy
        obtain ⟨hj, ej⟩ := List.getElem?_eq_some_iff.mp hij
        rw [List.getElem_range] at ej
        subst ej
        exact ⟨g σ v, by rw [List.getElem?_map, hv]; rfl, ry⟩
      · obtain ⟨more, em⟩ := hmore
        have nwr : ∀ b u, s1.heap.get? b = some u → b ∉ h3.objs.size :: wr := fun b u e hb => by
          have hl := Heap.lt_size e
          rcases List.mem_cons.mp hb with z | z
          · rw [z] at hl
            exact Nat.lt_irrefl _ (Nat.lt_of_lt_of_le hl (Nat.le_trans sz hsz))
          · exact Nat.lt_irrefl _ (Nat.lt_of_lt_of_le hl (hwr b z))
        have J := inv_tab (more := more) (h' := s'.heap) (g' := s'.gens) (d' := s'.drawn) (t' := s'.toks) I1 hP (fun b u hb e => hm.heap b u (nwr b u e) (hk5 b u (kp3 b u hb e)))
          (by rw [← em]; exact hm.heap P _ (nwr P _ tabS) (hk5 P _ hP3)) (AllBare.movedS (I1.bare.push hgb) hm)
        rw [sh_eta s1 s' hm.os] at J
        exact ⟨upd H1 P (.tbl (ps ++ more)), ⟨⟨ps ++ more, upd_same, by rw [← em]; exact ht3⟩, fun b hb => upd_ne hb⟩, J⟩
  cases hf : codeAmong gpos ps.toList with
  | none =>
    refine wpAny_genexprCodeX hcode (cd.code tab2 ht) (cd.tab tab2) hf fun c' h' tk hx hge hlt hco' _ htab' _ => ?_
    obtain ⟨o1, us, f1, tf, fl, tg, inF, tx, tt, op, _, _, _, _, _, _, _, _, _, htr, _⟩ := hco'
    exact cont _ h' tk _ hx (Nat.le_trans hge (Nat.le_of_lt hlt)) htab'.2 ⟨_, rfl⟩ htr
  | some cv =>
    refine wpAny_genexprCode_hit hcode (cd.code tab2 ht) hf ?_
    exact cont cv hp2 t2 ps (Heap.ExtBut.refl _ _) (Nat.le_refl _) tab2 ⟨#[], by simp⟩ ht
theorem gen2 {c P : Addr} {elt iter : Expr} {xa xb : Str} {pa pb pt gpos : Pos} {kt : Nat} {scope : Scope} {pre : L2.St → V → V → Prop} {g : L2.St → V → V → V} {k : Nat} {Qg : Value → Shared → Prop}
    (hr : Room k X.A) (TB : TabB X.base X.mg c P) (hcode : X.env.code = .ref c) (S : GenS X.env scope xa) (Sb : scope.names.lookup xb = some .local) (hab : xa ≠ xb) (hel : Elt2 X scope P xa xb elt pre g) (hs : ∀ v, genFold iter X.env v = pure v)
    (h : wpAny (model X.prog X.w) X.A (eval iter X.env) (fun xv sA => ∃ H1 s1, Inv X pins σ H1 s1 ∧ TabG H1 P ∧
      wpAny (model X.prog X.w) X.A (pyIter xv) (fun it s2 => ∃ vs, Begun2 X P s1 vs it s2 ∧ (∀ v ∈ vs, pre σ v.1 v.2) ∧ ∀ a s5, Ready X pins σ H1 P (vs.map fun v => g σ v.1 v.2) a s5 → Qg (.ref a) s5) X.xe sA) X.xe s) :
    wpAny (model X.prog X.w) X.A (eval (.GeneratorExp elt [⟨.Tuple [.Name xa pa, .Name xb pb] kt pt, iter, [], 0⟩] scope gpos) X.env) Qg X.xe s := by
  refine wpAny_GeneratorExp_walksQT hr.hd S.co (closure_ok S.free) S.cell S.dot S.loc Sb hab S.kind (by have := hr.dp; omega) ?_ hs
  refine wpAny_mono h (fun xv sA h1 => ?_) (fun _ _ e => e)
  obtain ⟨H1, s1, I1, ⟨ps, hP, ht⟩, hit⟩ := h1
  refine wpAny_mono hit (fun it s2 h2 => ?_) (fun _ _ e => e)
  obtain ⟨vs, ⟨Ia, fp, wr, Pf, Sf, Mid, hp2, t2, rfl, rfl, kp, sz, W, st0, hfp, hwr, hPf⟩, hpre, hQ⟩ := h2
  have tabS : s1.heap.get? P = some { cls := .none, data := .fields ps } := I1.hok P _ hP
  have tabL : P < s1.heap.objs.size := Heap.lt_size tabS
  have tab2 : hp2.get? P = some { cls := .none, data := .fields ps } := kp _ _ tabS
  have cd : PySem.W.CodeHd hp2 c P := TB.code.keeps fun b u e => kp b u (I1.bk b u e)
  have lim : hp2.NoLimit := I1.nolimit.keeps kp
  refine ⟨lim, ?_⟩
  have cont : ∀ (code : Value) (h3 : Heap) (tk : Nat) (ps' : Array Value), Heap.ExtBut P hp2 h3 → hp2.objs.size ≤ h3.objs.size → h3.get? P = some { cls := .none, data := .fields ps' } → (∃ more, ps' = ps ++ more) → TriplesOk ps'.toList →
      wpAny (model X.prog X.w) X.A (builtinsFor X.env.globals X.env.builtins) (fun bi s4 =>
        ∃ I fp wr n0 P0 St0 M0 pz F, Value.ref Ia = .ref I ∧ (∀ B : Around, B.handled = none → WalksU X.prog X.w B I fp wr n0 P0 St0 M0) ∧ (∀ i vals, P0 i vals → ∃ va vb, vals = #[va, vb]) ∧ St0 0 s4.heap ∧ (∀ b ∈ fp, b < s4.heap.objs.size) ∧ s4.heap.NoLimit ∧ cStatics ∉ wr ∧
          (∀ hf : Heap, (∀ b o, s4.heap.get? b = some o → hf.get? b = some o) →
            QuietGenT X.prog X.w (genEnv scope (cloFrom X.env.cells scope.names []) s4.heap.objs.size code bi X.env) xa xb [] elt (List.range s4.heap.objs.size) wr P0 pz F hf) ∧
          (∀ a h5 tk gs, gs.bare = true → s4.heap.objs.size < a → h5.objs.size = a + 1 → (∀ b o, s4.heap.get? b = some o → h5.get? b = some o) →
            WalksS X.prog X.w X.A.in4 a (a :: s4.heap.objs.size :: List.range s4.heap.objs.size) (s4.heap.objs.size :: wr) (GenOnlyQ s4.gens.size) (passing pz n0 0).length
              (fun j y => ∃ i, (passing pz n0 0)[j]? = some i ∧ F i y) (GenAt X.prog X.w X.A.in4 a s4.gens.size s4.heap.objs.size (List.range s4.heap.objs.size) wr pz n0 F) →
            GenAt X.prog X.w X.A.in4 a s4.gens.size s4.heap.objs.size (List.range s4.heap.objs.size) wr pz n0 F 0 { s4 with gens := s4.gens.push gs, toks := tk, heap := h5 } →
            Qg (.ref a) { s4 with gens := s4.gens.push gs, toks := tk, heap := h5 })) X.xe { s1 with heap := h3, toks := tk } := by
    intro code h3 tk ps' hx hsz hP3 hmore ht3
    obtain ⟨bm, ob, e1, e2, e3, e4, e5, e6, e7, e8⟩ := TB.bm
    have kp3 : ∀ b u, b ≠ P → s1.heap.get? b = some u → h3.get? b = some u := fun b u hb e => hx b u hb (kp b u e)
    have ncs : cStatics < s1.heap.objs.size := let ⟨_, hns, _⟩ := I1.nolimit; hns.lt
    have ncP : cStatics ≠ P := fun e => by
      obtain ⟨_, ⟨o', es, ep, ho, hd, _⟩, _⟩ := I1.nolimit
      rw [e, tabS] at ho
      cases ho
      cases hd
    refine wpAny_builtinsFor (m := X.mg) (by rw [I1.ok.glob]; exact ((I1.mod.glob.keeps I1.bk).keeps kp).extBut hx TB.gP) e1 e2 (kp3 _ _ e4 (I1.bk _ _ e5)) e6 e7 e8 ?_
    refine ⟨Ia, fp, wr, vs.length, Pf, Sf, Mid, (fun _ => true), (fun i y => ∃ v, vs[i]? = some v ∧ RelV (g σ v.1 v.2) y), rfl, W, (fun i vals hv => by obtain ⟨_, _, u, z, e, _⟩ := hPf i vals hv; exact ⟨u, z, e⟩), ?_, fun b hb => Nat.lt_of_lt_of_le (hfp b hb).1 hsz, lim.extBut hx ncP, fun z => Nat.lt_irrefl _ (Nat.lt_of_lt_of_le ncs (hwr _ z)), ?_, ?_⟩
    · exact (W X.A hr.hd).frame _ _ _ st0 fun b hb u e => hx b u (hfp b hb).2 e
    · intro hf hkf
      refine ⟨fun B Er i va vb s2 m2 hB hv hn hm hm' hk => ?_, fun B Er i va vb s2 m2 hB hv hp hn hm hm' hk => ?_⟩
      · simp only [List.forIn_nil]
        exact wpAny_pure ⟨rfl, keeps_refl _⟩
      · obtain ⟨v', w', u', z', eq, hv', rv, rw'⟩ := hPf i _ hv
        obtain ⟨rfl, rfl⟩ : va = u' ∧ vb = z' := by simpa using congrArg Array.toList eq
        have ask : Ask X scope P s1 (genEnv scope (cloFrom X.env.cells scope.names []) h3.objs.size code builtinsNs X.env) s2 m2 := by
          refine ⟨rfl, rfl, rfl, rfl, hn, fun b o hb e => ?_, ⟨ps, tabS⟩⟩
          have hl : b < s1.heap.objs.size := Heap.lt_size e
          refine hk b (List.mem_range.mpr (Nat.lt_of_lt_of_le hl (Nat.le_trans sz hsz))) (fun z => ?_) o (hkf b o (kp3 b o hb e))
          exact Nat.lt_irrefl _ (Nat.lt_of_lt_of_le hl (hwr b z))
        exact wpAny_mono (hel pins σ H1 s1 _ B Er s2 m2 v' w' va vb I1 ask hB hm hm' rv rw' (hpre (v', w') (List.mem_of_getElem? hv'))) (fun y s3 r => ⟨⟨(v', w'), hv', r.1⟩, r.2⟩) fun _ _ e => e
    · intro a h5 tk5 gs hgb hag hsz5 hk5 W5 hat
      simp only [all_pass, List.length_range] at W5
      refine hQ a _ ⟨_, _, _, _, _, by rw [List.length_map]; exact W5, hat, fun b hb => ?_, List.mem_cons_self, fun i s9 st => ?_, fun j y hy => ?_, fun s' hm => ?_⟩
      · show b < h5.objs.size
        rcases List.mem_cons.mp hb with z | z
        · rw [z, hsz5]
          exact Nat.lt_succ_self _
        · rcases List.mem_cons.mp z with z | z
          · rw [z, hsz5]
            exact Nat.lt_succ_of_lt hag
          · rw [hsz5]
            exact Nat.lt_succ_of_lt (Nat.lt_trans (List.mem_range.mp z) hag)
      · exact st.1.typeIs
      · obtain ⟨i, hij, v, hv, ry⟩ := hy
        obtain ⟨hj, ej⟩ := List.getElem?_eq_some_iff.mp hij
        rw [List.getElem_range] at ej
        subst ej
        exact ⟨g σ v.1 v.2, by rw [List.getElem?_map, hv]; rfl, ry⟩
      · obtain ⟨more, em⟩ := hmore
        have nwr : ∀ b u, s1.heap.get? b = some u → b ∉ h3.objs.size :: wr := fun b u e hb => by
          have hl := Heap.lt_size e
          rcases List.mem_cons.mp hb with z | z
          · rw [z] at hl
            exact Nat.lt_irrefl _ (Nat.lt_of_lt_of_le hl (Nat.le_trans sz hsz))
          · exact Nat.lt_irrefl _ (Nat.lt_of_lt_of_le hl (hwr b z))
        have J := inv_tab (more := more) (h' := s'.heap) (g' := s'.gens) (d' := s'.drawn) (t' := s'.toks) I1 hP (fun b u hb e => hm.heap b u (nwr b u e) (hk5 b u (kp3 b u hb e)))
          (by rw [← em]; exact hm.heap P _ (nwr P _ tabS) (hk5 P _ hP3)) (AllBare.movedS (I1.bare.push hgb) hm)
        rw [sh_eta s1 s' hm.os] at J
        exact ⟨upd H1 P (.tbl (ps ++ more)), ⟨⟨ps ++ more, upd_same, by rw [← em]; exact ht3⟩, fun b hb => upd_ne hb⟩, J⟩
  cases hf : codeAmong gpos ps.toList with
  | none =>
    refine wpAny_genexprCodeX hcode (cd.code tab2 ht) (cd.tab tab2) hf fun c' h' tk hx hge hlt hco' _ htab' _ => ?_
    obtain ⟨o1, us, f1, tf, fl, tg, inF, tx, tt, op, _, _, _, _, _, _, _, _, _, htr, _⟩ := hco'
    exact cont _ h' tk _ hx (Nat.le_trans hge (Nat.le_of_lt hlt)) htab'.2 ⟨_, rfl⟩ htr
  | some cv =>
    refine wpAny_genexprCode_hit hcode (cd.code tab2 ht) hf ?_
    exact cont cv hp2 t2 ps (Heap.ExtBut.refl _ _) (Nat.le_refl _) tab2 ⟨#[], by simp⟩ ht
/-- a generator expression: it will give the list that the reading hands on -/
structure PGn (X : Cx) (P : Addr) (ge : Expr) (t : L2.St → Hp → (List V → Hp → Prop) → Prop) : Prop where
  run : ∀ (pins : List (Addr × Obj)) (s : Shared) (σ : L2.St) (H : Hp) (R : List V → Hp → Prop) (Qg : Value → Shared → Prop), Inv X pins σ H s → t σ H R →
    (∀ ws H1 a s5, R ws H1 → Ready X pins σ H1 P ws a s5 → Qg (.ref a) s5) → wpAny (model X.prog X.w) X.A (eval ge X.env) Qg X.xe s
/-- over the signs of a text -/
theorem pgn_str {c P : Addr} {elt iter : Expr} {x : Str} {px gpos : Pos} {scope : Scope} {pre : L2.St → V → Prop} {g : L2.St → V → V} {k : Nat} {te : TE}
    (hr : Room k X.A) (TB : TabB X.base X.mg c P) (hcode : X.env.code = .ref c) (S : GenV X.env.scope scope x) (hi : PE X iter te) (hel : Elt1 X scope P x elt pre g) (hs : ∀ v, genFold iter X.env v = pure v) :
    PGn X P (.GeneratorExp elt [⟨.Name x px, iter, [], 0⟩] scope gpos) (fun σ H R => te σ H fun v H1 => ∃ a : Str, v = .str a ∧ TabG H1 P ∧ (∀ c ∈ a.cps.toList, pre σ (.str ⟨#[c]⟩)) ∧ R (a.cps.toList.map fun c => g σ (.str ⟨#[c]⟩)) H1) := by
  refine ⟨fun pins s σ H R Qg I h hQ => gen1 (pins := pins) (σ := σ) hr TB hcode (S.to I) hel hs ?_⟩
  refine thn (hi.run pins s σ H _ I h) fun xv s1 ⟨v, H1, I1, r1, a, ea, hT, hp, q1⟩ => ?_
  subst ea
  obtain ⟨t, rfl⟩ := r1
  refine ⟨H1, s1, I1, hT, wpAny_pyIter_str fun o Sf W hst => ⟨a.cps.toList.map fun c => .str ⟨#[c]⟩, ?_, ?_, fun b s5 hR => ?_⟩⟩
  · obtain ⟨ps, hP, _⟩ := hT
    have tabL : P < s1.heap.objs.size := Heap.lt_size (I1.hok P _ hP)
    refine ⟨s1.heap.objs.size, [s1.heap.objs.size], [s1.heap.objs.size], SignAt a, Sf, s1.heap.push o, s1.toks, rfl, rfl, fun b u e => Heap.get?_push_of_some _ e, ?_, ?_, hst, fun b hb => ?_, fun b hb => ?_, fun i u hu => ?_⟩
    · rw [Heap.size_push]
      exact Nat.le_succ _
    · rw [List.length_map, Array.length_toList]
      exact W
    · rw [List.mem_singleton.mp hb, Heap.size_push]
      exact ⟨Nat.lt_succ_self _, fun z => Nat.ne_of_lt tabL z.symm⟩
    · rw [List.mem_singleton.mp hb]
      exact Nat.le_refl _
    · obtain ⟨cc, tt, hc, rfl⟩ := hu
      refine ⟨.str ⟨#[cc]⟩, ?_, tt, rfl⟩
      rw [List.getElem?_map, Array.getElem?_toList, hc]
      rfl
  · intro v hv
    obtain ⟨cc, hc, rfl⟩ := List.mem_map.mp hv
    exact hp cc hc
  · rw [List.map_map] at hR
    exact hQ _ H1 b s5 q1 hR
/-- over the items of a tuple -/
theorem pgn_tup {c P : Addr} {elt iter : Expr} {x : Str} {px gpos : Pos} {scope : Scope} {pre : L2.St → V → Prop} {g : L2.St → V → V} {k : Nat} {te : TE}
    (hr : Room k X.A) (TB : TabB X.base X.mg c P) (hcode : X.env.code = .ref c) (S : GenV X.env.scope scope x) (hi : PE X iter te) (hel : Elt1 X scope P x elt pre g) (hs : ∀ v, genFold iter X.env v = pure v) :
    PGn X P (.GeneratorExp elt [⟨.Name x px, iter, [], 0⟩] scope gpos) (fun σ H R => te σ H fun v H1 => ∃ (a : Addr) (xs : List V), v = .ref a ∧ SqT X.K H1 a xs ∧ TabG H1 P ∧ (∀ v ∈ xs, pre σ v) ∧ R (xs.map (g σ)) H1) := by
  refine ⟨fun pins s σ H R Qg I h hQ => gen1 (pins := pins) (σ := σ) hr TB hcode (S.to I) hel hs ?_⟩
  refine thn (hi.run pins s σ H _ I h) fun xv s1 ⟨v, H1, I1, r1, a, xs, ea, hX, hT, hp, q1⟩ => ?_
  subst ea
  obtain rfl : xv = Value.ref a := r1
  obtain ⟨its, rv, pt, _⟩ := I1.tuple hX
  obtain ⟨ot, hot, hoc, hod⟩ := _root_.id pt
  have aL : a < s1.heap.objs.size := Heap.lt_size hot
  refine ⟨H1, s1, I1, hT, wpAny_pyIter_tuple pt ⟨xs, ?_, hp, fun b s5 hR => hQ _ H1 b s5 q1 hR⟩⟩
  obtain ⟨ps, hP, _⟩ := hT
  have tabS := I1.hok P _ hP
  have tabL : P < s1.heap.objs.size := Heap.lt_size tabS
  have hn : xs.length = its.toArray.size := by rw [rv.length, List.size_toArray]
  have W := fun (B : Around) (hB : B.handled = none) => Walks.tuple (prog := X.prog) (w := X.w) (A := B) hB s1.heap.objs.size a (Nat.ne_of_lt aL) its.toArray
  rw [← hn] at W
  refine ⟨s1.heap.objs.size, [s1.heap.objs.size, a], [s1.heap.objs.size], _, _, _, s1.toks, rfl, rfl, fun b u e => Heap.get?_push_of_some _ e, ?_, W, ⟨⟨_, Heap.get?_push_size _ rfl, rfl, rfl⟩, ⟨ot, Heap.get?_push_of_some _ hot, hoc, hod⟩⟩, fun b hb => ?_, fun b hb => ?_, fun i u hu => ?_⟩
  · rw [Heap.size_push]
    exact Nat.le_succ _
  · rw [Heap.size_push]
    rcases List.mem_cons.mp hb with z | z
    · rw [z]
      exact ⟨Nat.lt_succ_self _, fun z => Nat.ne_of_lt tabL z.symm⟩
    · rw [List.mem_singleton.mp z]
      refine ⟨Nat.lt_succ_of_lt aL, fun z2 => ?_⟩
      have e2 : s1.heap.get? P = some ot := by rw [← z2]; exact hot
      have e3 := e2.symm.trans tabS
      cases e3
      cases hoc
  · rw [List.mem_singleton.mp hb]
    exact Nat.le_refl _
  · have hu2 : its[i]? = some u := by simpa using hu
    have hi2 : i < its.length := (List.getElem?_eq_some_iff.mp hu2).1
    have hi3 : i < xs.length := by rw [rv.length]; exact hi2
    obtain ⟨u', hu', ru⟩ := rv.get (List.getElem?_eq_getElem hi3)
    rw [hu2] at hu'
    cases hu'
    exact ⟨_, List.getElem?_eq_getElem hi3, ru⟩
/-- over zip of two tuples -/
theorem pgn_zip {c P : Addr} {elt e1 e2 : Expr} {xa xb : Str} {pa pb pt gpos pz pn : Pos} {kt : Nat} {scope : Scope} {pre : L2.St → V → V → Prop} {g : L2.St → V → V → V} {k : Nat} {ta : TA}
    (hr : Room k X.A) (TB : TabB X.base X.mg c P) (hcode : X.env.code = .ref c) (S : GenV X.env.scope scope xa) (Sb : scope.names.lookup xb = some .local) (hab : xa ≠ xb) (hg : Gl X "zip") (hm : X.mg "zip" = none) (ha : PA X [e1, e2] ta) (hel : Elt2 X scope P xa xb elt pre g)
    (hs : ∀ v, genFold (.Call (.Name "zip" pn) [e1, e2] [] pz) X.env v = pure v)
    (he : starEach [e1, e2] X.env = (false, eval e1 X.env) :: starEach [e2] X.env := by rfl) (hpl : (backTo pz (starEach [e2] X.env)).any (·.1) = false := by rfl) :
    PGn X P (.GeneratorExp elt [⟨.Tuple [.Name xa pa, .Name xb pb] kt pt, .Call (.Name "zip" pn) [e1, e2] [] pz, [], 0⟩] scope gpos)
      (fun σ H R => ta σ H fun vs H1 => ∃ (a b : Addr) (xs ys : List V), vs = [.ref a, .ref b] ∧ SqT X.K H1 a xs ∧ SqT X.K H1 b ys ∧ TabG H1 P ∧ (∀ v ∈ xs.zip ys, pre σ v.1 v.2) ∧ R ((xs.zip ys).map fun v => g σ v.1 v.2) H1) := by
  refine ⟨fun pins s σ H R Qg I h hQ => gen2 (pins := pins) (σ := σ) hr TB hcode (S.to I) Sb hab hel hs ?_⟩
  refine Call_ (ld_blt I hg hm PyProof.Rows.boot_zip (PyProof.Rows.callWith_type1 (thn (ha.run pz pins s σ H _ I h) fun us s1 ⟨vs, H1, I1, r1, q1⟩ => ?_) he hpl))
  obtain ⟨a, b, xs, ys, ex, hX, hY, hT, hp, q1⟩ := q1
  subst ex
  obtain ⟨u1, u2, rfl, ra, rb⟩ := vals2 r1
  obtain rfl : u1 = Value.ref a := ra
  obtain rfl : u2 = Value.ref b := rb
  obtain ⟨its, rv, p1, _⟩ := I1.tuple hX
  obtain ⟨jts, rw', p2, _⟩ := I1.tuple hY
  obtain ⟨o1, ho1, oc1, od1⟩ := _root_.id p1
  obtain ⟨o2, ho2, oc2, od2⟩ := _root_.id p2
  have aL : a < s1.heap.objs.size := Heap.lt_size ho1
  have bL : b < s1.heap.objs.size := Heap.lt_size ho2
  refine RZ.call_zipT (show s1.heap.IsTuple a its.toArray from p1) (show s1.heap.IsTuple b jts.toArray from p2) fun h' hz hTI hTO h1 h2 hsz hk => ?_
  refine ⟨H1, s1, I1, hT, wpAny_pyIter_zip hz ⟨xs.zip ys, ?_, hp, fun w s5 hR => hQ _ H1 w s5 q1 hR⟩⟩
  obtain ⟨ps, hP, _⟩ := hT
  have tabS := I1.hok P _ hP
  have tabL : P < s1.heap.objs.size := Heap.lt_size tabS
  have ne1 : a ≠ P := fun z2 => by
    have e2 : s1.heap.get? P = some o1 := by rw [← z2]; exact ho1
    have e3 := e2.symm.trans tabS
    cases e3
    cases oc1
  have ne2 : b ≠ P := fun z2 => by
    have e2 : s1.heap.get? P = some o2 := by rw [← z2]; exact ho2
    have e3 := e2.symm.trans tabS
    cases e3
    cases oc2
  have W := fun (B : Around) (hB : B.handled = none) => (WalksT.zipD2 (prog := X.prog) (w := X.w) (A := B)
    (zip_sep2 (N := s1.heap.objs.size) (fp1 := [a]) (fp2 := [b]) (fun c hc => by rw [List.mem_singleton.mp hc]; exact aL) (fun c hc => by rw [List.mem_singleton.mp hc]; exact bL))
    (Draws.tuple (A := B.in1) hB s1.heap.objs.size a (Nat.ne_of_lt aL) its.toArray) (Draws.tuple (A := B.in1) hB (s1.heap.objs.size + 1) b (Nat.ne_of_lt (Nat.lt_succ_of_lt bL)) jts.toArray)).toU
  have hn : (xs.zip ys).length = min its.toArray.size jts.toArray.size := by rw [List.length_zip, rv.length, rw'.length, List.size_toArray, List.size_toArray]
  rw [← hn] at W
  refine ⟨_, _, _, _, _, _, h', s1.toks, rfl, rfl, hk, by rw [hsz]; exact Nat.le_add_right _ _, W, ⟨hz, hTI, ⟨_, _, hTO⟩, ⟨h1, ⟨o1, hk _ _ ho1, oc1, od1⟩⟩, ⟨h2, ⟨o2, hk _ _ ho2, oc2, od2⟩⟩⟩, fun d hd => ?_, fun d hd => ?_, fun i us hu => ?_⟩
  · rw [hsz]
    have hd2 : d = s1.heap.objs.size + 4 ∨ d = s1.heap.objs.size + 2 ∨ d = s1.heap.objs.size + 3 ∨ d = s1.heap.objs.size ∨ d = a ∨ d = s1.heap.objs.size + 1 ∨ d = b := by simpa using hd
    rcases hd2 with z | z | z | z | z | z | z
    · rw [z]; exact ⟨Nat.add_lt_add_left (by decide) _, fun q => Nat.lt_irrefl _ (Nat.lt_of_le_of_lt (Nat.le_add_right _ 4) (q ▸ tabL))⟩
    · rw [z]; exact ⟨Nat.add_lt_add_left (by decide) _, fun q => Nat.lt_irrefl _ (Nat.lt_of_le_of_lt (Nat.le_add_right _ 2) (q ▸ tabL))⟩
    · rw [z]; exact ⟨Nat.add_lt_add_left (by decide) _, fun q => Nat.lt_irrefl _ (Nat.lt_of_le_of_lt (Nat.le_add_right _ 3) (q ▸ tabL))⟩
    · rw [z]; exact ⟨Nat.lt_add_of_pos_right (by decide), fun q => Nat.lt_irrefl _ (q ▸ tabL)⟩
    · rw [z]; exact ⟨Nat.lt_of_lt_of_le aL (Nat.le_add_right _ 5), ne1⟩
    · rw [z]; exact ⟨Nat.add_lt_add_left (by decide) _, fun q => Nat.lt_irrefl _ (Nat.lt_of_le_of_lt (Nat.le_add_right _ 1) (q ▸ tabL))⟩
    · rw [z]; exact ⟨Nat.lt_of_lt_of_le bL (Nat.le_add_right _ 5), ne2⟩
  · have hd2 : d = s1.heap.objs.size + 4 ∨ d = s1.heap.objs.size + 3 ∨ d = s1.heap.objs.size ∨ d = s1.heap.objs.size + 1 := by simpa using hd
    rcases hd2 with z | z | z | z
    · rw [z]; exact Nat.le_add_right _ _
    · rw [z]; exact Nat.le_add_right _ _
    · rw [z]; exact Nat.le_refl _
    · rw [z]; exact Nat.le_add_right _ _
  · obtain ⟨x1, x2, hx1, hx2, rfl⟩ := hu
    have hu2 : its[i]? = some x1 := by simpa using hx1
    have hw2 : jts[i]? = some x2 := by simpa using hx2
    have hi3 : i < xs.length := by rw [rv.length]; exact (List.getElem?_eq_some_iff.mp hu2).1
    have hj3 : i < ys.length := by rw [rw'.length]; exact (List.getElem?_eq_some_iff.mp hw2).1
    obtain ⟨u', hu', ru⟩ := rv.get (List.getElem?_eq_getElem hi3)
    rw [hu2] at hu'
    cases hu'
    obtain ⟨w', hw', rw2⟩ := rw'.get (List.getElem?_eq_getElem hj3)
    rw [hw2] at hw'
    cases hw'
    exact ⟨xs[i], ys[i], _, _, rfl, by rw [List.getElem?_zip_eq_some]; exact ⟨List.getElem?_eq_getElem hi3, List.getElem?_eq_getElem hj3⟩, ru, rw2⟩
/-- all(..) of a generator expression of truth values -/
theorem pe_allG {P : Addr} {ge : Expr} {t : L2.St → Hp → (List V → Hp → Prop) → Prop} {p pos : Pos} (hg : Gl X "all") (hm : X.mg "all" = none) (hb : bootBuiltins "all" = some (.builtin "all")) (G : PGn X P ge t)
    (he : starEach [ge] X.env = (false, eval ge X.env) :: starEach [] X.env := by rfl) :
    PE X (.Call (.Name "all" p) [ge] [] pos) (fun σ H Q => t σ H fun ws H1 => ∃ bs : List Bool, ws = bs.map V.bl ∧ ∀ H2, Tabbed P H1 H2 → Q (.bl (bs.all _root_.id)) H2) := by
  refine ⟨fun pins s σ H Q I h => ?_⟩
  refine wpAny_Call_Name_kw (ld_blt I hg hm hb ?_)
  refine PyProof.Rows.callWith_builtin1 ?_ he (by rfl)
  rw [he]
  refine Calls.spliced_cons (G.run pins s σ H _ _ I h fun ws H1 a s5 hR hG => ?_)
  obtain ⟨fp, wr, Gr, F, Sf, W, hst, hfp, hgm, hty, hF, hI⟩ := hG
  obtain ⟨bs, rfl, q⟩ := hR
  refine Calls.spliced_nil ?_
  refine call_all_walkS (W.in4_1.self 0 _ _ _ hst ⟨a, fp, wr, Gr, _, F, Sf, fun j => bs.getD j false, rfl, W.in4_1, hst, ?_, fun s' hmv => ?_⟩)
  · intro j y sj Qj Ej hy hQj
    obtain ⟨v, hv, rv⟩ := hF j y hy
    rw [List.getElem?_map] at hv
    cases hb : bs[j]? with
    | none => rw [hb] at hv; cases hv
    | some b =>
      rw [hb] at hv
      cases hv
      obtain rfl : y = Value.bool b := rv
      have e : bs.getD j false = b := by rw [List.getD_eq_getElem?_getD, hb]; rfl
      have hQ2 : Qj (bs.getD j false) sj := hQj
      rw [e] at hQ2
      exact wpAny_truthy_bool hQ2
  · obtain ⟨H2, hT, J⟩ := hI s' hmv
    refine ⟨.bl _, H2, J, rfl, ?_⟩
    have e : (List.range (bs.map V.bl).length).all (fun j => bs.getD j false) = bs.all _root_.id := by
      rw [List.length_map, Bool.eq_iff_iff, List.all_eq_true, List.all_eq_true]
      constructor
      · intro hh b hb
        obtain ⟨j, hj, ej⟩ := List.getElem_of_mem hb
        have q2 := hh j (List.mem_range.mpr hj)
        rw [List.getD_eq_getElem?_getD, List.getElem?_eq_getElem hj] at q2
        rw [← ej]
        exact q2
      · intro hh j hj
        have hj' := List.mem_range.mp hj
        rw [List.getD_eq_getElem?_getD, List.getElem?_eq_getElem hj']
        exact hh _ (List.getElem_mem hj')
    rw [e]
    exact q H2 hT
/-- tuple(..) of a generator expression -/
theorem pe_tupG {P : Addr} {ge : Expr} {t : L2.St → Hp → (List V → Hp → Prop) → Prop} {p pos : Pos} (hg : Gl X "tuple") (hm : X.mg "tuple" = none) (hb : bootBuiltins "tuple" = some (.type "tuple")) (G : PGn X P ge t)
    (he : starEach [ge] X.env = (false, eval ge X.env) :: starEach [] X.env := by rfl) :
    PE X (.Call (.Name "tuple" p) [ge] [] pos) (fun σ H Q => t σ H fun ws H1 => ws.length ≤ sizeLine ∧ ∀ H2 d, Tabbed P H1 H2 → H2 d = none → Q (.ref d) (upd H2 d (.tup ws))) := by
  refine ⟨fun pins s σ H Q I h => ?_⟩
  refine wpAny_Call_Name_kw (ld_blt I hg hm hb ?_)
  refine PyProof.Rows.callWith_type1 ?_ he (by rfl)
  rw [he]
  refine Calls.spliced_cons (G.run pins s σ H _ _ I h fun ws H1 a s5 hR hG => ?_)
  obtain ⟨fp, wr, Gr, F, Sf, W, hst, hfp, hgm, hty, hF, hI⟩ := hG
  obtain ⟨hl, q⟩ := hR
  refine Calls.spliced_nil ?_
  refine call_tuple_gen W.in4_3 hty hst hfp hgm (fun s' acc hmv hacc => ?_) hl
  obtain ⟨H2, hT, J⟩ := hI s' hmv
  have rel : Vals ws acc.toList := by
    have key : ∀ (ws : List V) (us : List Value), ws.length = us.length → (∀ (j : Nat) (v : V) (u : Value), ws[j]? = some v → us[j]? = some u → RelV v u) → Vals ws us := by
      intro ws
      induction ws with
      | nil =>
        intro us hl _
        cases us with
        | nil => exact .nil
        | cons u r => cases hl
      | cons v r ih =>
        intro us hl hk
        cases us with
        | nil => cases hl
        | cons u us =>
          refine .cons (hk 0 v u rfl rfl) (ih us (by simpa using hl) fun j v' u' h1 h2 => hk (j + 1) v' u' h1 h2)
    refine key ws acc.toList (hacc.1.symm.trans Array.length_toList.symm) fun j v u h1 h2 => ?_
    have h3 : acc[j]? = some u := by rw [← Array.getElem?_toList]; exact h2
    obtain ⟨v', hv', rv⟩ := hF j u (hacc.2 j u h3)
    rw [h1] at hv'
    cases hv'
    exact rv
  have I2 : Inv X pins σ (upd H2 s'.heap.objs.size (.tup ws)) { s' with heap := s'.heap.push { cls := .type "tuple", data := .seq acc } } :=
    J.laid (t' := s'.toks) (fun b o e => Heap.get?_push_of_some _ e) (Nat.le_refl _) (show ObjOk X.prog X.w _ _ _ (.tup ws) from ⟨hl, acc.toList, rel, by rw [Array.toArray_toList]; exact IsTup.new _ _⟩)
  exact ⟨.ref s'.heap.objs.size, _, I2, rfl, q H2 _ hT (J.hok.fresh (Nat.le_refl _))⟩
end
end GX

set_option maxHeartbeats 2000000
namespace GX
open PySem PySem.Spec PyProof.Rows L2 GxR
section
variable {X : Cx} {scope : Scope} {P : Addr} {pins : List (Addr × Obj)} {σ : L2.St} {H : Hp} {s1 s2 : Shared} {cenv : Env} {m2 : Str → Option Value} {B : Around} {Er : Value → Shared → Prop} {Q : Value → Shared → Prop}
/-- a name of the generator's own -/
theorem own_name {x : Str} {u : Value} {p : Pos} (a : Ask X scope P s1 cenv s2 m2) (hk : scope.kind = .function) (hl : scope.names.lookup x = some .local) (hm : m2 x = some u) (h : Q u s2) (hd : (x == ("__debug__" : Str)) = false := by decide) :
    wpAny (model X.prog X.w) B (eval (.Name x p) cenv) Q Er s2 :=
  wpAny_Name (wpAny_loadName_local (by rw [a.sc]; exact hk) (show cenv.scope.names.lookup x = some .local by rw [a.sc]; exact hl) a.ns hm h) hd
/-- what is still there -/
theorem Ask.step (a : Ask X scope P s1 cenv s2 m2) {s3 : Shared} (k : Keeps s2 s3) : Ask X scope P s1 cenv s3 m2 := by
  obtain ⟨h', tk, rfl, hk⟩ := k
  exact ⟨a.sc, a.gl, a.bl, a.ce, a.ns.keeps hk, fun b o hb e => hk b o (a.kp b o hb e), a.tb⟩
theorem Ask.mod (a : Ask X scope P s1 cenv s2 m2) (I : Inv X pins σ H s1) (gP : mainGlobals ≠ P) : s2.heap.Ns cenv.globals X.mg := by
  rw [a.gl, I.ok.glob]
  exact (I.mod.glob.keeps I.bk).at' fun o e => a.kp _ o gP e
/-- a module's name -/
theorem glob_name {x : Str} {u : Value} {p : Pos} (a : Ask X scope P s1 cenv s2 m2) (I : Inv X pins σ H s1) (gP : mainGlobals ≠ P) (hk : scope.kind = .function) (hl : scope.names.lookup x = some .globalImplicit) (hm : X.mg x = some u) (h : Q u s2) (hd : (x == ("__debug__" : Str)) = false := by decide) :
    wpAny (model X.prog X.w) B (eval (.Name x p) cenv) Q Er s2 :=
  Calls.Name_function_global (by rw [a.sc]; exact hk) (show cenv.scope.names.lookup x = some .globalImplicit by rw [a.sc]; exact hl) (Calls.loadGlobal_global (a.mod I gP) hm h) hd
/-- a built-in name -/
theorem blt_name {x : Str} {u : Value} {p : Pos} (a : Ask X scope P s1 cenv s2 m2) (I : Inv X pins σ H s1) (gP : mainGlobals ≠ P) (hk : scope.kind = .function) (hl : scope.names.lookup x = some .globalImplicit) (hm : X.mg x = none) (hv : bootBuiltins x = some u) (h : Q u s2)
    (hn : x ≠ "__name__" := by decide) (hd : (x == ("__debug__" : Str)) = false := by decide) : wpAny (model X.prog X.w) B (eval (.Name x p) cenv) Q Er s2 := by
  obtain ⟨mb, h1, h2⟩ := I.mod.blt
  have h3 := h1.keeps I.bk
  have nP : builtinsNs ≠ P := fun z => by
    obtain ⟨ps, hps⟩ := a.tb
    obtain ⟨o, es, ep, ho, hdd, _⟩ := h3
    rw [z, hps] at ho
    cases ho
    cases hdd
  have h4 : s2.heap.Ns cenv.builtins mb := by
    rw [a.bl]
    exact h3.at' fun o e => a.kp _ o nP e
  exact Calls.Name_function_global (by rw [a.sc]; exact hk) (show cenv.scope.names.lookup x = some .globalImplicit by rw [a.sc]; exact hl) (Calls.loadGlobal_builtin (a.mod I gP) hm h4 ((h2 x hn).trans hv) h) hd
/-- a captured name of the def: it stands in the def's slot i -/
theorem free_name {y : Str} {i : Nat} {v : V} {p : Pos} (a : Ask X scope P s1 cenv s2 m2) (I : Inv X pins σ H s1) (hk : scope.kind = .function) (hl : scope.names.lookup y = some .free) (hN : X.N[i]? = some y) (hc : X.env.scope.names.lookup y = some .cell) (hσ : σ[i]? = some (some v))
    (h : ∀ u, RelV v u → Q u s2) (hd : (y == ("__debug__" : Str)) = false := by decide) (hcd : (y == ("__classdict__" : Str)) = false := by decide) : wpAny (model X.prog X.w) B (eval (.Name y p) cenv) Q Er s2 := by
  obtain ⟨m, hn, hlk⟩ := I.loc
  obtain ⟨u, ru, lk⟩ := hlk i y v hN hσ (.inr (.inl hc))
  rcases lk with ⟨k, _⟩ | ⟨_, c, hcl, hcell⟩
  · have k2 : X.env.scope.names.lookup y = some .local := k
    rw [hc] at k2
    cases k2
  · obtain ⟨o, ho, hdt⟩ := hcell
    have ncP : c ≠ P := fun z => by
      obtain ⟨ps, hps⟩ := a.tb
      rw [z, hps] at ho
      cases ho
      cases hdt
    have mem : (y, (X.env.cells.lookup y).getD 0) ∈ cenv.cells := by
      rw [a.ce]
      exact cloFrom_has (PySem.mem_of_lookup hl)
    have lkc : cenv.cells.lookup y = some c := by
      cases e : cenv.cells.lookup y with
      | none =>
        have := List.lookup_eq_none_iff.mp e _ mem
        simp at this
      | some c' =>
        have h1 := PySem.mem_of_lookup e
        rw [a.ce] at h1
        rcases cloFrom_mem h1 with z | ⟨_, z⟩
        · cases z
        · rw [z, hcl]
          rfl
    refine wpAny_Name (wpAny_loadName_free (by rw [a.sc]; exact hk) (show cenv.scope.names.lookup y = some .free by rw [a.sc]; exact hl) lkc ⟨o, a.kp _ o ncP ho, hdt⟩ (h u ru) hcd) hd
end
/-- x in G, G a text of the module -/
def inG (z : Str) : V → V
  | .str a => .bl (a.cps.toList.all fun c => decide (c ∈ z.cps.toList))
  | v => v
theorem elt_inG {X : Cx} {scope : Scope} {P : Addr} {x gn : Str} {z : Str} {t : Tok} {p1 p2 p3 : Pos} (gP : mainGlobals ≠ P) (hk : scope.kind = .function) (hl : scope.names.lookup x = some .local) (hg : scope.names.lookup gn = some .globalImplicit) (hm : X.mg gn = some (.str z t))
    (hd : (x == ("__debug__" : Str)) = false := by decide) (hd2 : (gn == ("__debug__" : Str)) = false := by decide) :
    Elt1 X scope P x (.Compare (.Name x p1) [.In] [.Name gn p2] p3) (fun _ v => ∃ c, v = .str ⟨#[c]⟩) (fun _ v => inG z v) := by
  intro pins σ H s1 cenv B Er s2 m2 v u I a hB hx rv hp
  obtain ⟨c, rfl⟩ := hp
  obtain ⟨t', rfl⟩ := rv
  refine wpAny_Compare1 (own_name a hk hl hx (glob_name a I gP hk hg hm ?_ hd2) hd)
  refine PyProof.Rows.in_str ⟨?_, keeps_refl _⟩
  show Value.bool _ = Value.bool _
  rw [PySem.StrLaws.found_one z c]
  simp
def add2 : V → V → V
  | .int i, .int j => .int (i + j)
  | v, _ => v
def sub2 : V → V → V
  | .int i, .int j => .int (i - j)
  | v, _ => v
def le2 : V → V → V
  | .int i, .int j => .bl (decide (i ≤ j))
  | v, _ => v
def min2 : V → V → V
  | .int i, .int j => .int (if j < i then j else i)
  | v, _ => v
/-- x * y, y a captured name in the slot i -/
def mulAt (i : Nat) (σ : L2.St) : V → V
  | .int a => (match σ[i]? with
    | some (some (.int b)) => .int (a * b)
    | _ => .int a)
  | v => v
theorem elt_mul {X : Cx} {scope : Scope} {P : Addr} {x y : Str} {i : Nat} {p1 p2 p3 : Pos} (hk : scope.kind = .function) (hl : scope.names.lookup x = some .local) (hf : scope.names.lookup y = some .free) (hN : X.N[i]? = some y) (hc : X.env.scope.names.lookup y = some .cell)
    (hd : (x == ("__debug__" : Str)) = false := by decide) (hd2 : (y == ("__debug__" : Str)) = false := by decide) (hcd : (y == ("__classdict__" : Str)) = false := by decide) :
    Elt1 X scope P x (.BinOp (.Name x p1) .Mult (.Name y p2) p3) (fun σ v => ∃ a b : Int, v = .int a ∧ σ[i]? = some (some (.int b)) ∧ CMul a b) (fun σ v => mulAt i σ v) := by
  intro pins σ H s1 cenv B Er s2 m2 v u I a hB hx rv hp
  obtain ⟨m, n, rfl, hσ, hm⟩ := hp
  obtain ⟨t, rfl⟩ := rv
  refine wpAny_BinOp (own_name a hk hl hx (free_name a I hk hf hN hc hσ (fun z rz => ?_) hd2 hcd) hd)
  obtain ⟨t', rfl⟩ := rz
  refine mul_int ⟨?_, keeps_tok _ _⟩ hm.ok
  have e : mulAt i σ (V.int m) = V.int (m * n) := by
    unfold mulAt
    rw [hσ]
  show RelV (mulAt i σ (V.int m)) _
  rw [e]
  exact ⟨_, rfl⟩
def Ints2 (v w : V) : Prop := ∃ i j : Int, v = .int i ∧ w = .int j
section
variable {X : Cx} {scope : Scope} {P : Addr} {xa xb : Str} {p1 p2 p3 p4 : Pos} (hk : scope.kind = .function) (hl : scope.names.lookup xa = some .local) (hl2 : scope.names.lookup xb = some .local)
    (hd : (xa == ("__debug__" : Str)) = false := by decide) (hd2 : (xb == ("__debug__" : Str)) = false := by decide)
include hk hl hl2 hd hd2
theorem elt_add : Elt2 X scope P xa xb (.BinOp (.Name xa p1) .Add (.Name xb p2) p3) (fun _ v w => Ints2 v w) (fun _ v w => add2 v w) := by
  intro pins σ H s1 cenv B Er s2 m2 v w u z I a hB hx hy rv rw' hp
  obtain ⟨i, j, rfl, rfl⟩ := hp
  obtain ⟨t, rfl⟩ := rv
  obtain ⟨t', rfl⟩ := rw'
  exact wpAny_BinOp (own_name a hk hl hx (own_name a hk hl2 hy (add_int ⟨⟨_, rfl⟩, keeps_tok _ _⟩) hd2) hd)
theorem elt_sub : Elt2 X scope P xa xb (.BinOp (.Name xa p1) .Sub (.Name xb p2) p3) (fun _ v w => Ints2 v w) (fun _ v w => sub2 v w) := by
  intro pins σ H s1 cenv B Er s2 m2 v w u z I a hB hx hy rv rw' hp
  obtain ⟨i, j, rfl, rfl⟩ := hp
  obtain ⟨t, rfl⟩ := rv
  obtain ⟨t', rfl⟩ := rw'
  exact wpAny_BinOp (own_name a hk hl hx (own_name a hk hl2 hy (sub_int ⟨⟨_, rfl⟩, keeps_tok _ _⟩) hd2) hd)
theorem elt_le : Elt2 X scope P xa xb (.Compare (.Name xa p1) [.LtE] [.Name xb p2] p3) (fun _ v w => Ints2 v w) (fun _ v w => le2 v w) := by
  intro pins σ H s1 cenv B Er s2 m2 v w u z I a hB hx hy rv rw' hp
  obtain ⟨i, j, rfl, rfl⟩ := hp
  obtain ⟨t, rfl⟩ := rv
  obtain ⟨t', rfl⟩ := rw'
  exact wpAny_Compare1 (own_name a hk hl hx (own_name a hk hl2 hy (le_int ⟨rfl, keeps_refl _⟩) hd2) hd)
theorem elt_min (gP : mainGlobals ≠ P) (hg : scope.names.lookup ("min" : Str) = some .globalImplicit) (hm : X.mg "min" = none) :
    Elt2 X scope P xa xb (.Call (.Name "min" p1) [.Name xa p2, .Name xb p3] [] p4) (fun _ v w => Ints2 v w) (fun _ v w => min2 v w) := by
  intro pins σ H s1 cenv B Er s2 m2 v w u z I a hB hx hy rv rw' hp
  obtain ⟨i, j, rfl, rfl⟩ := hp
  obtain ⟨t, rfl⟩ := rv
  obtain ⟨t', rfl⟩ := rw'
  refine wpAny_Call_Name_kw (blt_name (u := .builtin "min") a I gP hk hg hm (by decide +kernel) ?_)
  refine PyProof.Rows.callWith_builtin1 ?_ rfl rfl
  refine PyProof.Rows.args_cons (own_name a hk hl hx ?_ hd) rfl
  refine PyProof.Rows.args_cons (own_name a hk hl2 hy ?_ hd2) rfl
  refine PyProof.Rows.args_nil ?_
  refine min_two_ints hB fun h' tk kp => ⟨?_, ⟨h', tk, rfl, kp⟩⟩
  show ∃ t0, _ = Value.int (if j < i then j else i) t0
  by_cases hj : j < i
  · rw [if_pos hj, if_pos hj]
    exact ⟨_, rfl⟩
  · rw [if_neg hj, if_neg hj]
    exact ⟨_, rfl⟩
end
end GX

namespace My
open PySem PySem.Spec PyProof.Rows L2 GX GxR
/-! heaps -/
/-- all that was tracked outside of S is as it was -/
def Kp (S : List Addr) (H H' : Hp) : Prop := ∀ x o, x ∉ S → H x = some o → H' x = some o
theorem Kp.refl (S : List Addr) (H : Hp) : Kp S H H := fun _ _ _ h => h
theorem Kp.trans {S : List Addr} {H H1 H2 : Hp} (a : Kp S H H1) (b : Kp S H1 H2) : Kp S H H2 := fun x o n h => b x o n (a x o n h)
theorem Kp.mono {S T : List Addr} {H H' : Hp} (a : Kp S H H') (h : ∀ x ∈ S, x ∈ T) : Kp T H H' := fun x o n e => a x o (fun z => n (h x z)) e
theorem Same.kp {H H' : Hp} (S : List Addr) (a : Same H H') : Kp S H H' := fun x o _ h => a x o h
theorem Kp.seq {K : PySem.W.Frag} {S : List Addr} {H H' : Hp} {a : Addr} {xs : List V} (e : Kp S H H') (h : SqL K H a xs) (n : a ∉ S) : SqL K H' a xs := by
  rcases h with (h | ⟨o, h⟩) | h
  · exact .inl (.inl (e _ _ n h))
  · exact .inl (.inr ⟨o, e _ _ n h⟩)
  · exact .inr h
theorem kp_upd {S : List Addr} {H : Hp} {p : Addr} {o : HO} (h : p ∈ S) : Kp S H (upd H p o) := fun b x n e => by
  rw [upd_ne (fun z => n (by rw [z]; exact h))]
  exact e
theorem same_upd {H : Hp} {p : Addr} {o : HO} (h : H p = none) : Same H (upd H p o) := fun b x e => by
  rw [upd_ne (ne_of_none e h)]
  exact e
theorem iteJ {c A B R : Prop} [Decidable c] (h1 : c → R → A) (h2 : ¬ c → R → B) (r : R) : if c then A else B := by
  by_cases h : c
  · rw [if_pos h]
    exact h1 h r
  · rw [if_neg h]
    exact h2 h r
/-- the built-in names that the text uses -/
structure Txt (mg : Str → Option Value) : Prop where
  len : mg "len" = none
  abs : mg "abs" = none
  isi : mg "isinstance" = none
  lst : mg "list" = none
  tup : mg "tuple" = none
  zip : mg "zip" = none
  all : mg "all" = none
  str : mg "str" = none
  int : mg "int" = none
  bool : mg "bool" = none
  max : mg "max" = none
  min : mg "min" = none
  range : mg "range" = none
/-- a drawing box: what is left of its digits, its mixed number, how often it was asked (at most c) -/
def BoxV (xs : List V) (c : Int) : Prop := ∃ d m t : Int, xs = [.int d, .int m, .int t] ∧ 0 ≤ d ∧ 0 ≤ m ∧ m < 2147483629 ∧ 0 ≤ t ∧ t ≤ c
def BoxAt (H : Hp) (b : Addr) (c : Int) : Prop := ∃ xs, H b = some (.lst xs) ∧ BoxV xs c
def spBox (K : PySem.W.Frag) : Sp := fun vs H Q _ => ∃ (a : Addr) (ns : List Int) (k : Nat), vs = [.ref a, .int (k : Int)] ∧ SqL K H a (ns.map V.int) ∧ k ≤ 1000 ∧
  ∀ p xs, H p = none → BoxV xs 0 → Q (.ref p) (upd H p (.lst xs))
def spTake : Sp := fun vs H Q _ => ∃ (b : Addr) (c many : Int), vs = [.ref b, .int many] ∧ BoxAt H b c ∧ 0 < many ∧ many < 1073741824 ∧ c ≤ 1000000000 ∧
  ∀ r H', 0 ≤ r → r < many → Kp [b] H H' → BoxAt H' b (c + 1) → Q (.int r) H'
theorem walk_zipT {K : PySem.W.Frag} {a b : Addr} {xs ys : List V} {n : Nat} (hn : n = min xs.length ys.length) : Walk (RZ.ItzT K a b) n (fun H => SqT K H a xs ∧ SqT K H b ys) (YPair (fun i => xs[i]?) (fun i => ys[i]?)) := by
  subst hn
  refine ⟨fun i _ hi q => ?_, fun _ q => ⟨xs, ys, q.1, q.2, by omega⟩, fun i H v H' _ q y => ?_⟩
  · have h1 : i < xs.length := by omega
    have h2 : i < ys.length := by omega
    exact ⟨xs, ys, xs[i], ys[i], q.1, q.2, by simp [h1], by simp [h2]⟩
  · obtain ⟨T, x, z, h1, h2, h3, h4, h5⟩ := y
    exact ⟨T, x, z, h1, h2, h3, h4 xs q.1, h5 ys q.2⟩
/-! alike -/
def Leaf (x y : V) : Prop := (∃ b, x = .bl b ∧ y = .bl b) ∨ (∃ i, x = .int i ∧ y = .int i) ∨ (∃ z, x = .str z ∧ y = .str z) ∨ (x = .non ∧ y = .non)
def Al (H : Hp) : Nat → V → V → Prop
  | 0, x, y => Leaf x y
  | n + 1, x, y => Leaf x y ∨ ∃ (a b : Addr) (xs ys : List V), x = .ref a ∧ y = .ref b ∧ ((H a = some (.lst xs) ∧ H b = some (.lst ys)) ∨ (H a = some (.tup xs) ∧ H b = some (.tup ys))) ∧ xs.length = ys.length ∧ xs.length < 100000 ∧
      ∀ (i : Nat) (x y : V), xs[i]? = some x → ys[i]? = some y → Al H n x y
theorem Al.leaf {H : Hp} {x y : V} (h : Leaf x y) : ∀ n, Al H n x y
  | 0 => h
  | _ + 1 => .inl h
theorem Al.same {H H' : Hp} (e : Same H H') : ∀ (n : Nat) (x y : V), Al H n x y → Al H' n x y
  | 0, _, _, h => h
  | n + 1, x, y, h => by
    rcases h with h | ⟨a, b, xs, ys, e1, e2, h, hl, hl2, k⟩
    · exact .inl h
    · refine .inr ⟨a, b, xs, ys, e1, e2, ?_, hl, hl2, fun i x y h1 h2 => Al.same e n x y (k i x y h1 h2)⟩
      rcases h with ⟨h1, h2⟩ | ⟨h1, h2⟩
      · exact .inl ⟨e _ _ h1, e _ _ h2⟩
      · exact .inr ⟨e _ _ h1, e _ _ h2⟩
theorem kany {K : PySem.W.Frag} {t : String} {b1 b2 : Bool} (h1 : kitB t "list" = some b1) (h2 : kitB t "tuple" = some b2) : PySem.W.kitAny K (.type t) [.type "list", .type "tuple"] = some (b1 || b2) := by
  unfold PySem.W.kitAny
  rw [kit_ty h1]
  cases b1 with
  | true => rfl
  | false =>
    show PySem.W.kitAny K (.type t) [.type "tuple"] = _
    unfold PySem.W.kitAny
    rw [kit_ty h2]
    cases b2 <;> rfl
theorem pairT : Paired ClsV [V.ty "list", V.ty "tuple"] [Value.type "list", Value.type "tuple"] := .cons (.ty _) (.cons (.ty _) .nil)
def spAlike (n : Nat) : Sp := fun vs H Q _ => ∃ x y : V, vs = [x, y] ∧ Al H n x y ∧ ∀ H', Same H H' → Q (.bl true) H'
section
variable {X : Cx}
theorem pe_isT {e : Expr} {te : TE} {p1 p2 p3 p4 p5 : Pos} {kk : Nat} (T : Txt X.mg) (g1 : Gl X "isinstance") (g2 : Gl X "list") (g3 : Gl X "tuple") (he : PE X e te)
    (h1 : starEach [e, .Tuple [.Name "list" p2, .Name "tuple" p3] kk p4] X.env = (false, eval e X.env) :: starEach [.Tuple [.Name "list" p2, .Name "tuple" p3] kk p4] X.env := by rfl) :
    PE X (.Call (.Name "isinstance" p1) [e, .Tuple [.Name "list" p2, .Name "tuple" p3] kk p4] [] p5) (tCB (rIsiT X.K) (tCons te (tCons (tTup (tCons (tC (.ty "list")) (tCons (tC (.ty "tuple")) tNil))) tNil))) :=
  pe_callB call_isiT g1 T.isi (by decide +kernel) (pa_cons he (pa_cons (pe_tup (pa_cons (pe_bltn g2 T.lst (by decide +kernel) rfl) (pa_cons (pe_bltn g3 T.tup (by decide +kernel) rfl) pa_nil))) pa_nil) h1) (by decide) (by decide) h1
theorem pe_isi {e : Expr} {te : TE} {x : Str} {c : String} {p1 p2 p5 : Pos} (T : Txt X.mg) (g1 : Gl X "isinstance") (g2 : Gl X x) (m2 : X.mg x = none) (b2 : bootBuiltins x = some (.type c)) (he : PE X e te)
    (hn : x ≠ "__name__" := by decide) (hd : (x == ("__debug__" : Str)) = false := by decide)
    (h1 : starEach [e, .Name x p2] X.env = (false, eval e X.env) :: starEach [.Name x p2] X.env := by rfl) :
    PE X (.Call (.Name "isinstance" p1) [e, .Name x p2] [] p5) (tCB (rIsi X.K) (tCons te (tCons (tC (.ty c)) tNil))) :=
  pe_callB call_isi g1 T.isi (by decide +kernel) (pa_cons he (pa_cons (pe_bltn g2 m2 b2 rfl hn hd) pa_nil) h1) (by decide) (by decide) h1
theorem bt_list : bootBuiltins "list" = some (.type "list") := by decide +kernel
theorem bt_tuple : bootBuiltins "tuple" = some (.type "tuple") := by decide +kernel
theorem bt_str : bootBuiltins "str" = some (.type "str") := by decide +kernel
theorem bt_int : bootBuiltins "int" = some (.type "int") := by decide +kernel
theorem bt_bool : bootBuiltins "bool" = some (.type "bool") := by decide +kernel
end
theorem kB1 : kitB "int" "list" = some false := by decide +kernel
theorem kB2 : kitB "int" "tuple" = some false := by decide +kernel
theorem kB3 : kitB "bool" "list" = some false := by decide +kernel
theorem kB4 : kitB "bool" "tuple" = some false := by decide +kernel
theorem kB5 : kitB "str" "list" = some false := by decide +kernel
theorem kB6 : kitB "str" "tuple" = some false := by decide +kernel
theorem kB7 : kitB "NoneType" "list" = some false := by decide +kernel
theorem kB8 : kitB "NoneType" "tuple" = some false := by decide +kernel
theorem kB9 : kitB "list" "list" = some true := by decide +kernel
theorem kB10 : kitB "list" "tuple" = some false := by decide +kernel
theorem kB11 : kitB "tuple" "list" = some false := by decide +kernel
theorem kB12 : kitB "tuple" "tuple" = some true := by decide +kernel
theorem BoxAt.same {H H' : Hp} {b : Addr} {c : Int} (e : Same H H') (h : BoxAt H b c) : BoxAt H' b c := by
  obtain ⟨xs, h1, h2⟩ := h
  exact ⟨xs, e _ _ h1, h2⟩
theorem BoxAt.kp {S : List Addr} {H H' : Hp} {b : Addr} {c : Int} (e : Kp S H H') (n : b ∉ S) (h : BoxAt H b c) : BoxAt H' b c := by
  obtain ⟨xs, h1, h2⟩ := h
  exact ⟨xs, e _ _ n h1, h2⟩
/-- the boxes of a script: new lists, no two of them one, at D the list of them -/
structure Boxes (H H' : Hp) (D : Addr) (bs : List Addr) : Prop where
  same : Same H H'
  lst : H' D = some (.lst (bs.map V.ref))
  box : ∀ b ∈ bs, BoxAt H' b 0
  new : ∀ b ∈ bs, H b = none
  nd : bs.Nodup
  no : D ∉ bs
  nD : H D = none
def spCells (K : PySem.W.Frag) : Sp := fun vs H Q _ => ∃ (a : Addr) (ns : List Int), vs = [.ref a] ∧ SqL K H a (ns.map V.int) ∧ ns.length ≤ 63 ∧ ∀ H' D bs, Boxes H H' D bs → bs.length ≤ 63 → Q (.ref D) H'
/-- a def whose code object stands at c -/
structure FunC (K : PySem.W.Frag) (x qual : Str) (st : Stmt) (f : Addr) (fd : FuncData) (c : Addr) : Prop where
  ex : ∃ (oc : Value) (od : Option Addr) (kV doc pm : Value) (an : Option Addr) (ct : Value) (osl : Array (Option Value)),
    fd = PySem.W.fnOf x qual (defArgs st) (defBody st) (defScope st) .none kV doc pm an (.ref c) ct ∧ K.lookup f = some ⟨oc, od, .func fd, osl⟩ ∧ PySem.W.codeIn K (.ref c) qual = true
  kp : PySem.W.keepIn K (.ref f) = true
theorem FunC.fn {K : PySem.W.Frag} {x qual : Str} {st : Stmt} {f c : Addr} {fd : FuncData} (F : FunC K x qual st f fd c) : Fun K x qual st f fd := by
  obtain ⟨⟨oc, od, kV, doc, pm, an, ct, osl, e, l, h⟩, k⟩ := F
  exact ⟨⟨oc, od, kV, doc, pm, an, .ref c, ct, osl, e, l, h⟩, k⟩
section
variable {P : Program} {w : World} {K : PySem.W.Frag} {mg : Str → Option Value} {base : Heap}
theorem FunC.ok {x qual : Str} {st : Stmt} {f c : Addr} {fd : FuncData} {N ps : List Str} {k : Nat} {sp : Sp} (F : FunC K x qual st f fd c) (S : FnScope N ps (defScope st)) (len : ∀ vs H Q E, sp vs H Q E → vs.length = ps.length)
    (hbody : ∀ (A : Around) (outer : List Env) (s : Shared) (H : Hp) (vs : List V) (Q : VK) (E : XK), Room k (A.deeper (envOfC qual (defScope st) s.heap.objs.size f (.ref c))) → sp vs H Q E →
      ∃ t, PSs (cxOf CX0 P w K mg base N qual (defScope st) f (.ref c) A outer s H E).nox (defBody st) t ∧ t { nx := fun _ H' => Q .non H', rt := Q } (start N vs) H) :
    FnOk P w K mg base CX0 (k + 1) f fd ps sp := by
  obtain ⟨oc, od, kV, doc, pm, an, ct, osl, rfl, lk, hcd⟩ := F.ex
  refine fn_of lk hcd S len fun A outer s H vs Q E hr hsp => ?_
  obtain ⟨t, h1, h2⟩ := hbody A outer s H vs Q E hr hsp
  exact ⟨t, h1.nox, h2⟩
/-- what a generator expression's scope is checked for, where it captures nothing -/
def genC (scope : Scope) (x : Str) : Bool :=
  decide (scope.kind = .function) && decide (scope.isCoroutine = false) && scope.names.all (fun y => decide (y.2 ≠ .cell) && decide (y.2 ≠ .free)) && decide (scope.names.lookup (".0" : Str) = some NameKind.local) && decide (scope.names.lookup x = some NameKind.local)
theorem genS_of {sc scope : Scope} {x : Str} (h : genC scope x = true) : GenV sc scope x := by
  unfold genC at h
  simp only [Bool.and_eq_true, decide_eq_true_eq, List.all_eq_true] at h
  obtain ⟨⟨⟨⟨h1, h2⟩, h3⟩, h4⟩, h5⟩ := h
  exact ⟨h1, h2, fun y hy => (h3 y hy).1, h4, h5, fun y hy e => absurd e (h3 y hy).2⟩
/-- .. and where it captures names of the def -/
def genCF (sc scope : Scope) (x : Str) : Bool :=
  decide (scope.kind = .function) && decide (scope.isCoroutine = false) && scope.names.all (fun y => decide (y.2 ≠ .cell) && (decide (y.2 ≠ .free) || decide (sc.names.lookup y.1 = some .cell))) && decide (scope.names.lookup (".0" : Str) = some NameKind.local) && decide (scope.names.lookup x = some NameKind.local)
theorem genF_of {sc scope : Scope} {x : Str} (h : genCF sc scope x = true) : GenV sc scope x := by
  unfold genCF at h
  simp only [Bool.and_eq_true, Bool.or_eq_true, decide_eq_true_eq, List.all_eq_true] at h
  obtain ⟨⟨⟨⟨h1, h2⟩, h3⟩, h4⟩, h5⟩ := h
  refine ⟨h1, h2, fun y hy => (h3 y hy).1, h4, h5, fun y hy e => ?_⟩
  rcases (h3 y hy).2 with z | z
  · exact absurd e z
  · exact .inl z
end
/-- between two turns of the law -/
structure Good (T D : Addr) (bs : List Addr) (i : Nat) (H : Hp) : Prop where
  tab : TabG H T
  lst : H D = some (.lst (bs.map V.ref))
  box : ∀ (j : Nat) (b : Addr), i ≤ j → bs[j]? = some b → BoxAt H b 0
theorem TabG.same {H H' : Hp} {T : Addr} (e : Same H H') (h : TabG H T) : TabG H' T := by
  obtain ⟨ps, h1, h2⟩ := h
  exact ⟨ps, e _ _ h1, h2⟩
theorem TabG.kp {S : List Addr} {H H' : Hp} {T : Addr} (e : Kp S H H') (n : T ∉ S) (h : TabG H T) : TabG H' T := by
  obtain ⟨ps, h1, h2⟩ := h
  exact ⟨ps, e _ _ n h1, h2⟩
theorem tab_ne {H : Hp} {T b : Addr} {o : HO} (h : TabG H T) (e : H b = some o) (n : ∀ ps, o ≠ .tbl ps) : b ≠ T := fun z => by
  obtain ⟨ps, h1, _⟩ := h
  rw [z, h1] at e
  exact n ps (Option.some.inj e).symm
theorem tab_nb {H : Hp} {T b : Addr} {c : Int} (h : TabG H T) (B : BoxAt H b c) : b ≠ T := by
  obtain ⟨xs, h1, _⟩ := B
  exact tab_ne h h1 fun ps z => by cases z
theorem Good.same {T D : Addr} {bs : List Addr} {i : Nat} {H H' : Hp} (g : Good T D bs i H) (e : Same H H') : Good T D bs i H' :=
  ⟨TabG.same e g.tab, e _ _ g.lst, fun j b h1 h2 => (g.box j b h1 h2).same e⟩
theorem Good.kpT {T D : Addr} {bs : List Addr} {i : Nat} {H H' : Hp} (g : Good T D bs i H) (e : Kp [T] H H') (h : TabG H' T) : Good T D bs i H' := by
  refine ⟨h, e _ _ (fun z => ?_) g.lst, fun j b h1 h2 => (g.box j b h1 h2).kp e fun z => ?_⟩
  · exact tab_ne g.tab g.lst (fun ps z => by cases z) (List.mem_singleton.mp z)
  · exact tab_nb g.tab (g.box j b h1 h2) (List.mem_singleton.mp z)
theorem Good.kpb {T D b : Addr} {bs : List Addr} {i : Nat} {H H' : Hp} {c : Int} (g : Good T D bs (i + 1) H) (B : BoxAt H b c) (hb : bs[i]? = some b) (nd : bs.Nodup) (no : D ∉ bs) (e : Kp [b] H H') : Good T D bs (i + 1) H' := by
  refine ⟨TabG.kp e (fun z => tab_nb g.tab B (List.mem_singleton.mp z).symm) g.tab, e _ _ (fun z => no (by rw [List.mem_singleton.mp z]; exact List.mem_of_getElem? hb)) g.lst, fun j b' h1 h2 => (g.box j b' h1 h2).kp e fun z => ?_⟩
  obtain ⟨q1, e1⟩ := List.getElem?_eq_some_iff.mp hb
  obtain ⟨q2, e2⟩ := List.getElem?_eq_some_iff.mp h2
  exact List.pairwise_iff_getElem.mp nd i j q1 q2 (by omega) (by rw [e1, e2]; exact (List.mem_singleton.mp z).symm)
theorem al_list {H : Hp} {p q : Addr} {xs ys : List V} (h1 : H p = some (.lst xs)) (h2 : H q = some (.lst ys)) (hl : xs.length = ys.length) (hs : xs.length < 100000) (k : ∀ (i : Nat) (x y : V), xs[i]? = some x → ys[i]? = some y → Leaf x y) : Al H 1 (.ref p) (.ref q) :=
  .inr ⟨p, q, xs, ys, rfl, rfl, .inl ⟨h1, h2⟩, hl, hs, fun i x y a b => k i x y a b⟩
/-- the end of a law that reaches generator expressions: the head's own words of the top go on to the promise -/
theorem walk_tabs {l : PySem.W.OpenLaw} {n k : Nat} {q : Program} {loose : List Str} {XP : (Str → Option Value) → Heap → Prop} {YP : World → Heap → Prop} {d : DefRec} {K : Params → PySem.W.Frag} {x : Str}
    (hn : l.most = some n) (hn2 : n ≤ sizeLine) (hdf : d.params.defaults = []) (hr : Room k callerA) (hY : ∀ (w : World) (h : Heap), YP w h → (K w.params).In h)
    (F : ∀ (w : World) (mg mb : Str → Option Value) (mean : ExcName → Option Value) (fa : Addr) (h : Heap), PyProof.Rows.Top q (PySem.W.looseW q loose) mean mg mb h → (K w.params).In h → mg d.name = some (.ref fa) → LamX.LawAtS l w (K w.params) CX0 k n x mg fa h) :
    PySem.W.WalkO q loose XP YP l.row.toRowW d [] (fun f vs => PySem.call f vs) := by
  refine Att.attach_callB hn hdf fun w s0 s1 mg mb fa o pm cd doc a vs ns G Y ho hd hcd hmg hobj hints hlen hbits hg => ?_
  have KX := hY w _ Y
  obtain ⟨fd, cs, sp, h1, h2, h3, h4, h5, h6⟩ := F w mg mb _ fa _ G.T KX hmg
  exact LamX.law_callTs KX G.T.g G.T.b G.T.builtins G.T.nolimit hg h1 h2 h3 G.T.bmain hobj hints (Nat.le_trans hlen hn2) hr h6 h4 (fun H hH hS => h5 H a ns hlen hbits hH hS) fun H e s' z => z
theorem tab_at {p : Program} {loose : List Str} {mean : ExcName → Option Value} {mg mb : Str → Option Value} {h : Heap} {K : PySem.W.Frag} {x : Str} {c T : Addr} (Z : PyProof.Rows.Top p loose mean mg mb h) (X : K.In h)
    (hr : ((recsOf p).any fun e => e.name == x) = true) (ht : PySem.W.tabIn K x = some (c, T)) : PySem.W.CodeHd h c T ∧ h.get? T = some { cls := .none, data := .fields #[] } := by
  cases e : (recsOf p).find? (fun e => e.name == x) with
  | none =>
    obtain ⟨d, hd, hx⟩ := List.any_eq_true.mp hr
    exact absurd hx (List.find?_eq_none.mp e d hd)
  | some d => exact PySem.W.tab_of Z X e ht
theorem tab_in {K : PySem.W.Frag} {x : Str} {f c T : Addr} {oc e : Value} {od ed : Option Addr} {fd : FuncData} {sl es : Array (Option Value)} {vs : Array Value} (a : PySem.W.nsIn K mainGlobals x = some (some (.ref f))) (l : K.lookup f = some ⟨oc, od, .func fd, sl⟩) (hc : fd.code = .ref c)
    (u : K.lookup c = some ⟨e, ed, .fields vs, es⟩) (v : vs[11]? = some (.ref T)) : PySem.W.tabIn K x = some (c, T) := by
  unfold PySem.W.tabIn
  simp only [a, l, hc, u, v]
end My

namespace GX
open PySem PySem.Spec PyProof.Rows L2
open AutoSeq1 (wpAny_loadPart')
theorem tuple_once (l : Addr) (items : Array Value) (n : Nat) (dd : Option Addr) (sl : Array (Option Value)) (u : Tok) :
    Meets (Builtin.«tuple.__mul__» ⟨[.ref l, .int 1 u], []⟩) (fun _ R s => s.heap.get? l = some { cls := .type "tuple", dict := dd, data := .seq items n, slots := sl } ∧ R (.ok (.ret (Value.ref l))) s) :=
  .of_wp fun prog w A R s h => by
    obtain ⟨hp, g, d, tk, os⟩ := s
    obtain ⟨hl, h⟩ := h
    have f1 := AutoSeq1.idx_int
    wp_walk using wpAny_loadPart' hl
    exact ⟨_, rfl, h⟩
/-- t * k, k from 1 on: once is the tuple itself -/
def rRepU (K : PySem.W.Frag) : R2 := fun x y H Q => ∃ l k xs, x = .ref l ∧ y = .int k ∧ SqT K H l xs ∧ xs ≠ [] ∧ 1 ≤ k ∧ k ≤ 1000 ∧ xs.length ≤ 1000 ∧
  (k = 1 → Q (.ref l) H) ∧ (k ≠ 1 → ∀ p, H p = none → Q (.ref p) (upd H p (.tup (List.replicate k.toNat xs).flatten)))
theorem op_repU {X : Cx} : OpR X (binaryOp .Mult) (rRepU X.K) := by
  intro pins s σ H x y v u Q I rx ry h
  obtain ⟨l, k, xs, rfl, rfl, hT, hne, h1, h2, hz, q1, q2⟩ := h
  by_cases hk : k = 1
  · subst hk
    cases rx
    obtain ⟨t, rfl⟩ := ry
    obtain ⟨its, r, ⟨⟨cls, dd, data, sl⟩, ho, hc, n, hd⟩, hs⟩ := I.tuple hT
    simp only at hc hd
    subst hc hd
    exact wpAny_binaryOp_repeat_ref (T := "tuple") (U := "int") (by decide) ⟨_, ho, rfl⟩ (fun s' => typeIs_int s' 1 t) noFill_tuple_mul F.fills_int_mul F.slot_int_rmul repeat_tuple F.slot_int_index.lookup
      (call_meets F.slot_int_rmul (typeIs_int s 1 t) F.entry_int_rmul (F.args_int_rmul_2 _ _) (int_rmul_tuple 1 t l its.toArray n dd sl)
        ⟨ho, rfl, ⟨_, ho, rfl⟩, call_meets F.slot_tuple_mul ⟨_, ho, rfl⟩ F.entry_tuple_mul (F.args_tuple_mul_2 _ _) (tuple_once l its.toArray n dd sl t) ⟨ho, ⟨.ref l, H, I, rfl, q1 rfl⟩⟩⟩)
  · exact op_repT pins s σ H _ _ v u Q I rx ry ⟨l, k, xs, rfl, rfl, hT, hne, by omega, h2, hz, q2 hk⟩
end GX

namespace My
open PySem PySem.Spec PyProof.Rows L2 GX GxR
/-- what is known within a turn of a law: the tables of the code objects Ts, the box at b (asked at most c times), the things fs that stay -/
structure Wd (Ts : List Addr) (b : Addr) (c : Int) (fs : List (Addr × HO)) (H : Hp) : Prop where
  tab : ∀ T ∈ Ts, TabG H T
  box : BoxAt H b c
  obj : ∀ f ∈ fs, H f.1 = some f.2
  off : ∀ f ∈ fs, f.1 ≠ b ∧ f.1 ∉ Ts
section
variable {Ts : List Addr} {b : Addr} {c : Int} {fs : List (Addr × HO)} {H H' : Hp}
theorem Wd.nbT (W : Wd Ts b c fs H) {T : Addr} (h : T ∈ Ts) : b ≠ T := tab_nb (W.tab T h) W.box
theorem Wd.same (W : Wd Ts b c fs H) (e : Same H H') : Wd Ts b c fs H' :=
  ⟨fun T h => TabG.same e (W.tab T h), W.box.same e, fun f h => e _ _ (W.obj f h), W.off⟩
theorem Wd.asked (W : Wd Ts b c fs H) {c' : Int} (e : Kp [b] H H') (B : BoxAt H' b c') : Wd Ts b c' fs H' :=
  ⟨fun T h => TabG.kp e (fun z => W.nbT h (List.mem_singleton.mp z).symm) (W.tab T h), B, fun f h => e _ _ (fun z => (W.off f h).1 (List.mem_singleton.mp z)) (W.obj f h), W.off⟩
theorem Wd.grown (W : Wd Ts b c fs H) {T : Addr} (h : T ∈ Ts) (e : Kp [T] H H') (t : TabG H' T) : Wd Ts b c fs H' := by
  refine ⟨fun T' h' => ?_, W.box.kp e fun z => W.nbT h (List.mem_singleton.mp z), fun f hf => e _ _ (fun z => (W.off f hf).2 (by rw [List.mem_singleton.mp z]; exact h)) (W.obj f hf), W.off⟩
  by_cases z : T' = T
  · rw [z]
    exact t
  · exact TabG.kp e (fun q => z (List.mem_singleton.mp q)) (W.tab T' h')
/-- a thing that is new -/
theorem Wd.new {c0 : Int} (W : Wd Ts b c0 fs H) {p : Addr} {o : HO} (n : H p = none) (e : H' p = some o) (W' : Wd Ts b c fs H') : Wd Ts b c ((p, o) :: fs) H' := by
  refine ⟨W'.tab, W'.box, fun f hf => ?_, fun f hf => ?_⟩
  · rcases List.mem_cons.mp hf with z | z
    · rw [z]
      exact e
    · exact W'.obj f z
  · rcases List.mem_cons.mp hf with z | z
    · rw [z]
      refine ⟨fun q => ?_, fun q => ?_⟩
      · obtain ⟨xs, h1, _⟩ := W.box
        exact ne_of_none h1 n (Eq.symm q)
      · obtain ⟨ps, h1, _⟩ := W.tab _ q
        rw [show H p = some (.tbl ps) from h1] at n
        cases n
    · exact W'.off f z
theorem Wd.laid (W : Wd Ts b c fs H) {p : Addr} {o : HO} (n : H p = none) : Wd Ts b c ((p, o) :: fs) (upd H p o) :=
  W.new n upd_same (W.same (same_upd n))
theorem Wd.le (W : Wd Ts b c fs H) {c' : Int} (h : c ≤ c') : Wd Ts b c' fs H := by
  obtain ⟨xs, h1, d, m, t, h2, h3, h4, h5, h6, h7⟩ := W.box
  exact ⟨W.tab, ⟨xs, h1, d, m, t, h2, h3, h4, h5, h6, by omega⟩, W.obj, W.off⟩
end
/-- between two turns, of several tables -/
structure GoodS (Ts : List Addr) (D : Addr) (bs : List Addr) (i : Nat) (H : Hp) : Prop where
  tab : ∀ T ∈ Ts, TabG H T
  lst : H D = some (.lst (bs.map V.ref))
  box : ∀ (j : Nat) (b : Addr), i ≤ j → bs[j]? = some b → BoxAt H b 0
/-- the things that stay within turn i -/
def keptIn (D : Addr) (bs : List Addr) (i : Nat) (H : Hp) : List (Addr × HO) := (D :: bs.drop (i + 1)).map fun a => (a, (H a).getD (.lst []))
theorem GoodS.inn {Ts : List Addr} {D b : Addr} {bs : List Addr} {i : Nat} {H : Hp} (g : GoodS Ts D bs i H) (hb : bs[i]? = some b) (nd : bs.Nodup) (no : D ∉ bs) : Wd Ts b 0 (keptIn D bs i H) H := by
  have B := g.box i b (Nat.le_refl _) hb
  have at_ : ∀ a ∈ D :: bs.drop (i + 1), ∃ xs, H a = some (.lst xs) := fun a ha => by
    rcases List.mem_cons.mp ha with z | z
    · rw [z]
      exact ⟨_, g.lst⟩
    · obtain ⟨j, hj⟩ := List.mem_iff_getElem?.mp z
      rw [List.getElem?_drop] at hj
      obtain ⟨xs, h1, _⟩ := g.box (i + 1 + j) a (by omega) hj
      exact ⟨xs, h1⟩
  refine ⟨g.tab, B, fun f hf => ?_, fun f hf => ?_⟩
  · obtain ⟨a, ha, rfl⟩ := List.mem_map.mp hf
    obtain ⟨xs, h1⟩ := at_ a ha
    show H a = some ((H a).getD (.lst []))
    rw [h1]
    rfl
  · obtain ⟨a, ha, rfl⟩ := List.mem_map.mp hf
    obtain ⟨xs, h1⟩ := at_ a ha
    refine ⟨fun z => ?_, fun z => tab_ne (g.tab a z) h1 (fun ps q => by cases q) rfl⟩
    have z' : a = b := z
    rcases List.mem_cons.mp ha with q | q
    · exact no (by rw [← q, z']; exact List.mem_of_getElem? hb)
    · obtain ⟨j, hj⟩ := List.mem_iff_getElem?.mp q
      rw [List.getElem?_drop] at hj
      obtain ⟨q1, e1⟩ := List.getElem?_eq_some_iff.mp hb
      obtain ⟨q2, e2⟩ := List.getElem?_eq_some_iff.mp hj
      exact List.pairwise_iff_getElem.mp nd i (i + 1 + j) q1 q2 (by omega) (by rw [e1, e2]; exact z'.symm)
theorem GoodS.out {Ts : List Addr} {D b : Addr} {bs : List Addr} {i : Nat} {c : Int} {fs : List (Addr × HO)} {H H' : Hp} (g : GoodS Ts D bs i H) (W : Wd Ts b c fs H') (h : ∀ f ∈ keptIn D bs i H, f ∈ fs) : GoodS Ts D bs (i + 1) H' := by
  have at_ : ∀ a ∈ D :: bs.drop (i + 1), H' a = some ((H a).getD (.lst [])) := fun a ha => W.obj (a, _) (h _ (List.mem_map.mpr ⟨a, ha, rfl⟩))
  refine ⟨W.tab, ?_, fun j b' h1 h2 => ?_⟩
  · have e := at_ D List.mem_cons_self
    rw [g.lst] at e
    exact e
  · have hm : b' ∈ bs.drop (i + 1) := by
      refine List.mem_iff_getElem?.mpr ⟨j - (i + 1), ?_⟩
      rw [List.getElem?_drop, show i + 1 + (j - (i + 1)) = j by omega]
      exact h2
    have e := at_ b' (List.mem_cons_of_mem _ hm)
    obtain ⟨xs, h3, h4⟩ := g.box j b' (by omega) h2
    rw [h3] at e
    exact ⟨xs, e, h4⟩
/-- an amount: numbers from 0 to 10 ** 12 -/
def Amt (ns : List Int) : Prop := ∀ n ∈ ns, 0 ≤ n ∧ n ≤ 1000000000000
def spWide : Sp := fun vs H Q _ => ∃ (b : Addr) (c : Int), vs = [.ref b] ∧ BoxAt H b c ∧ c ≤ 100000000 ∧ ∀ n H', 0 ≤ n → n ≤ 1000000000000 → Kp [b] H H' → BoxAt H' b (c + 6) → Q (.int n) H'
def spAmount : Sp := fun vs H Q _ => ∃ (b : Addr) (c : Int) (k : Nat), vs = [.ref b, .int (k : Int)] ∧ BoxAt H b c ∧ c ≤ 10000000 ∧ k ≤ 100 ∧
  ∀ p ns H', Amt ns → ns.length = k → Kp [b] H H' → BoxAt H' b (c + 600) → H p = none → H' p = some (.tup (ns.map V.int)) → Q (.ref p) H'
/-! two lists, place by place -/
inductive Prs (R : V → V → Prop) : List V → List V → Prop
  | nil : Prs R [] []
  | cons {x y : V} {xs ys : List V} : R x y → Prs R xs ys → Prs R (x :: xs) (y :: ys)
theorem Prs.len {R : V → V → Prop} : ∀ {xs ys : List V}, Prs R xs ys → xs.length = ys.length
  | _, _, .nil => rfl
  | _, _, .cons _ h => congrArg Nat.succ h.len
theorem Prs.get {R : V → V → Prop} : ∀ {xs ys : List V}, Prs R xs ys → ∀ (i : Nat) (x y : V), xs[i]? = some x → ys[i]? = some y → R x y
  | _, _, .nil, _, _, _, h, _ => by simp at h
  | _, _, .cons r h, 0, _, _, h1, h2 => by
    cases h1
    cases h2
    exact r
  | _, _, .cons r h, i + 1, x, y, h1, h2 => h.get i x y h1 h2
theorem Prs.ints {R : V → V → Prop} (r : ∀ i, R (.int i) (.int i)) : ∀ ns : List Int, Prs R (ns.map V.int) (ns.map V.int)
  | [] => .nil
  | n :: ns => .cons (r n) (Prs.ints r ns)
theorem al_int {H : Hp} {n : Nat} (i : Int) : Al H n (.int i) (.int i) := Al.leaf (.inr (.inl ⟨i, rfl, rfl⟩)) n
theorem al_bl {H : Hp} {n : Nat} (b : Bool) : Al H n (.bl b) (.bl b) := Al.leaf (.inl ⟨b, rfl, rfl⟩) n
theorem al_lst {H : Hp} {n : Nat} {p q : Addr} {xs ys : List V} (h1 : H p = some (.lst xs)) (h2 : H q = some (.lst ys)) (hs : xs.length < 100000) (k : Prs (Al H n) xs ys) : Al H (n + 1) (.ref p) (.ref q) :=
  .inr ⟨p, q, xs, ys, rfl, rfl, .inl ⟨h1, h2⟩, k.len, hs, k.get⟩
theorem al_tup {H : Hp} {n : Nat} {p q : Addr} {ns : List Int} (h1 : H p = some (.tup (ns.map V.int))) (h2 : H q = some (.tup (ns.map V.int))) (hs : ns.length < 100000) : Al H (n + 1) (.ref p) (.ref q) :=
  .inr ⟨p, q, _, _, rfl, rfl, .inr ⟨h1, h2⟩, rfl, by rw [List.length_map]; exact hs, (Prs.ints (fun i => al_int i) ns).get⟩
/-! what the amounts come to, number by number -/
def spNothing : Sp := fun vs H Q _ => ∃ k : Nat, vs = [.int (k : Int)] ∧ 1 ≤ k ∧ k ≤ 1000 ∧ ∀ p H', Same H H' → H p = none → H' p = some (.tup ((List.replicate k (0 : Int)).map V.int)) → Q (.ref p) H'
def spZip (K : PySem.W.Frag) (T : Addr) (op : Int → Int → Int) : Sp := fun vs H Q _ => ∃ (a b : Addr) (xs ys : List Int), vs = [.ref a, .ref b] ∧ SqT K H a (xs.map V.int) ∧ SqT K H b (ys.map V.int) ∧ xs.length ≤ 1000 ∧ TabG H T ∧
  ∀ p H', TabG H' T → Kp [T] H H' → H p = none → H' p = some (.tup ((List.zipWith op xs ys).map V.int)) → Q (.ref p) H'
def spZipS (K : PySem.W.Frag) (op : Int → Int → Int) : Sp := fun vs H Q _ => ∃ (a b : Addr) (xs ys : List Int), vs = [.ref a, .ref b] ∧ SqT K H a (xs.map V.int) ∧ SqT K H b (ys.map V.int) ∧ xs.length ≤ 1000 ∧
  ∀ p H', Same H H' → H p = none → H' p = some (.tup ((List.zipWith op xs ys).map V.int)) → Q (.ref p) H'
/-- one that leaves all as it was does so with a table, too -/
theorem zip_tab {K : PySem.W.Frag} {op : Int → Int → Int} (T : Addr) (vs : List V) (H : Hp) (Q : VK) (E : XK) (h : spZip K T op vs H Q E) : spZipS K op vs H Q E := by
  obtain ⟨a, b, xs, ys, e, hX, hY, hl, hT, q⟩ := h
  exact ⟨a, b, xs, ys, e, hX, hY, hl, fun p H' s n h => q p H' (TabG.same s hT) (Same.kp _ s) n h⟩
theorem get_int {xs : List Int} {i : Nat} {v : V} (h : (xs.map V.int)[i]? = some v) : ∃ x, xs[i]? = some x ∧ v = .int x := by
  rw [List.getElem?_map] at h
  cases e : xs[i]? with
  | none => rw [e] at h; cases h
  | some x =>
    rw [e] at h
    exact ⟨x, rfl, (Option.some.inj h).symm⟩
theorem same_putA {H H1 : Hp} {b : Addr} {o : HO} (s : Same H H1) (n : H b = none) : Same H (upd H1 b o) := fun x u e => by
  rw [upd_ne (ne_of_none e n)]
  exact s _ _ e
theorem zip_to {g : V → V → V} {op : Int → Int → Int} (h : ∀ i j, g (.int i) (.int j) = .int (op i j)) : ∀ xs ys : List Int, (((xs.map V.int).zip (ys.map V.int)).map fun v => g v.1 v.2) = (List.zipWith op xs ys).map V.int
  | [], _ => rfl
  | _ :: _, [] => rfl
  | x :: xs, y :: ys => by
    show g (.int x) (.int y) :: (((xs.map V.int).zip (ys.map V.int)).map fun v => g v.1 v.2) = .int (op x y) :: (List.zipWith op xs ys).map V.int
    rw [h, zip_to h xs ys]
theorem zip_ints : ∀ (xs ys : List Int), ∀ v ∈ (xs.map V.int).zip (ys.map V.int), Ints2 v.1 v.2
  | [], _, _, h => by cases h
  | _ :: _, [], _, h => by cases h
  | x :: xs, y :: ys, v, h => by
    rcases List.mem_cons.mp h with e | e
    · rw [e]
      exact ⟨x, y, rfl, rfl⟩
    · exact zip_ints xs ys v e
theorem zip_len {op : Int → Int → Int} (xs ys : List Int) : (List.zipWith op xs ys).length ≤ xs.length := by
  rw [List.length_zipWith]
  omega
theorem rep_flat (k : Nat) (v : V) : (List.replicate k [v]).flatten = List.replicate k v := by
  induction k with
  | zero => rfl
  | succ k ih =>
    rw [List.replicate_succ, List.flatten_cons, ih]
    rfl
theorem kp_of_tabbed {T : Addr} {H H2 : Hp} (h : Tabbed T H H2) : Kp [T] H H2 := fun x o nx e => by
  rw [h.2 x fun z => nx (by rw [z]; exact List.mem_singleton.mpr rfl)]
  exact e
theorem free_of_tabbed {T d : Addr} {H H2 : Hp} (h : Tabbed T H H2) (n : H2 d = none) : H d = none := by
  obtain ⟨⟨ps, h1, _⟩, h2⟩ := h
  by_cases z : d = T
  · rw [z, h1] at n
    cases n
  · rw [← h2 d z]
    exact n
theorem rep_read {K : PySem.W.Frag} {H : Hp} {Q : VK} {t : Addr} {k : Int} {n : Nat} (hk : k = (n : Int)) (h1 : 1 ≤ n) (h2 : n ≤ 1000) (nt : H t = none) (q : ∀ p H', Same H H' → H p = none → H' p = some (.tup ((List.replicate n (0 : Int)).map V.int)) → Q (.ref p) H') :
    rRepU K (.ref t) (.int k) (upd H t (.tup [.int 0])) Q := by
  refine ⟨t, k, [.int 0], rfl, rfl, SqT.of upd_same, by simp, by omega, by omega, by decide, fun z => ?_, fun z p np => ?_⟩
  · have z' : n = 1 := by omega
    subst z'
    exact q t _ (same_upd nt) nt upd_same
  · refine q p _ ((same_upd nt).trans (same_upd np)) ((same_upd nt).free np) ?_
    rw [upd_same, hk, Int.toNat_natCast, rep_flat, List.map_replicate]
theorem at_ints {xs : List Int} {i : Nat} {x : Int} (h : xs[i]? = some x) : atI (xs.map V.int) (0 + (i : Int)) = some (.int x) := by
  rw [Int.zero_add]
  exact atI_nat (by rw [List.getElem?_map, h]; rfl)
theorem zw_take {op : Int → Int → Int} {xs ys : List Int} {i : Nat} {x y : Int} (hx : xs[i]? = some x) (hy : ys[i]? = some y) : (List.zipWith op xs ys).take (i + 1) = (List.zipWith op xs ys).take i ++ [op x y] := by
  rw [List.take_add_one, List.getElem?_zipWith, hx, hy]
  rfl
theorem same_seqT {K : PySem.W.Frag} {H H' : Hp} {a : Addr} {xs : List V} (e : Same H H') (h : SqT K H a xs) : SqT K H' a xs := by
  rcases h with (h | ⟨o, h⟩) | h
  · exact .inl (.inl (e _ _ h))
  · exact .inl (.inr ⟨o, e _ _ h⟩)
  · exact .inr h
theorem Amt.take {ns : List Int} (h : Amt ns) (k : Nat) : Amt (ns.take k) := fun n hn => h n (List.mem_of_mem_take hn)
theorem Amt.drop {ns : List Int} (h : Amt ns) (k : Nat) : Amt (ns.drop k) := fun n hn => h n (List.mem_of_mem_drop hn)
theorem Amt.app {ns ms : List Int} (h : Amt ns) (h' : Amt ms) : Amt (ns ++ ms) := fun n hn => by
  rcases List.mem_append.mp hn with z | z
  · exact h n z
  · exact h' n z
theorem BoxAt.le {H : Hp} {b : Addr} {c c' : Int} (B : BoxAt H b c) (h : c ≤ c') : BoxAt H b c' := by
  obtain ⟨xs, h1, d, m, t, h2, h3, h4, h5, h6, h7⟩ := B
  exact ⟨xs, h1, d, m, t, h2, h3, h4, h5, h6, by omega⟩
theorem box_free {H H' : Hp} {b : Addr} {c : Int} (B : BoxAt H' b c) (k : Kp [b] H H') {x : Addr} (n : H' x = none) : H x = none := by
  cases e : H x with
  | none => rfl
  | some o =>
    by_cases z : x = b
    · obtain ⟨ys, h1, _⟩ := B
      rw [z, h1] at n
      cases n
    · rw [k _ _ (fun q => z (List.mem_singleton.mp q)) e] at n
      cases n
theorem box_ne {H : Hp} {b p : Addr} {c : Int} {xs : List V} (B : BoxAt H b c) (h : H p = some (.tup xs)) : p ∉ [b] := fun z => by
  obtain ⟨ys, h1, _⟩ := B
  rw [← List.mem_singleton.mp z, h] at h1
  cases h1
theorem box_new {H : Hp} {b p : Addr} {c : Int} (B : BoxAt H b c) (h : H p = none) : p ∉ [b] := fun z => by
  obtain ⟨ys, h1, _⟩ := B
  rw [← List.mem_singleton.mp z, h] at h1
  cases h1
end My

namespace My
open PySem PySem.Spec PyProof.Rows L2 GX GxR
/-- a draw below any number up to 2 ** 60 -/
def spTakeW : Sp := fun vs H Q _ => ∃ (b : Addr) (c many : Int), vs = [.ref b, .int many] ∧ BoxAt H b c ∧ 0 < many ∧ many ≤ 1152921504606846976 ∧ c ≤ 1000000000 ∧
  ∀ r H', 0 ≤ r → r < many → Kp [b] H H' → BoxAt H' b (c + 1) → Q (.int r) H'
theorem wideOk {i many : Int} (h0 : 0 < many) (h1 : many ≤ 1152921504606846976) : CDivW i many :=
  wide_div (b := 62) h0 (by have : (2 : Nat) ^ 62 = 4611686018427387904 := by decide
                            rw [this]; omega) (by decide) (by decide)
end My

namespace My
open PySem PySem.Spec PyProof.Rows L2 GX GxR
def topS (i : Nat) : Stmt := PySem.Challenge.pw_clusterhall_k21_order_and_more_room.main.body.getD i (.Pass ⟨0, 0, 0, 0⟩)
abbrev sBox : Stmt := topS 19
abbrev sTake : Stmt := topS 20
theorem scBox : FnScope ["_law_script", "_law_k", "_law_cell", "_law_digits"] ["_law_script", "_law_k"] (defScope sBox) := ⟨rfl, rfl, rfl, by decide +kernel, rfl, by decide +kernel, by decide +kernel⟩
theorem scTake : FnScope ["_law_box_here", "_law_many_here", "_law_found", "_law_once"] ["_law_box_here", "_law_many_here"] (defScope sTake) := ⟨rfl, rfl, rfl, by decide +kernel, rfl, by decide +kernel, by decide +kernel⟩
section
variable {P : Program} {w : World} {K : PySem.W.Frag} {mg : Str → Option Value} {base : Heap}
theorem ok_box {f : Addr} {fd : FuncData} {k : Nat} (F : Fun K "_law_box" "_law_box" sBox f fd) (T : Txt mg) : FnOk P w K mg base CX0 (k + 1) f fd ["_law_script", "_law_k"] (spBox K) := by
  refine F.ok scBox (fun vs H Q E h => ?_) (fun cdv A outer s H vs Q E hr h => ?_)
  · obtain ⟨a, ns, k, rfl, _⟩ := h
    rfl
  · obtain ⟨a, ns, k, rfl, hS, hk, q⟩ := h
    refine ⟨_, pss_cons (ps_set (i := 2) scBox.nd rfl (.inl rfl) pe_int)
      (pss_cons (ps_if (pt_cmpR op_lt (pv 1) (pe_callB call_len_seq (by rfl) T.len PySem.boot_len (pa_cons (pv 0) pa_nil)) (nomark _)) (pss_one (ps_set (i := 2) scBox.nd rfl (.inl rfl) (pe_ix ix_list (pv 0) (pv 1) (fun _ _ => rfl)))) pss_nil)
      (pss_cons (ps_set (i := 3) scBox.nd rfl (.inl rfl) pe_int)
      (pss_cons (ps_if (pt_cmpR op_ge (pe_callB call_abs (by rfl) T.abs (by decide +kernel) (pa_cons (pv 2) pa_nil)) (pe_op op_pow pe_int pe_int) (nomark _)) (pss_one (ps_set (i := 3) scBox.nd rfl (.inl rfl) (pe_callB call_abs (by rfl) T.abs (by decide +kernel) (pa_cons (pv 2) pa_nil)))) pss_nil)
      (pss_one (ps_ret (pe_lst (pa_cons (pv 3) (pa_cons (pe_op op_mod (pe_op op_mul (pe_op op_add (pe_op op_add (pe_op op_mod (pv 2) pe_int) (pe_op op_mul pe_int (pv 1))) pe_int) pe_int) pe_int) (pa_cons pe_int pa_nil))))))))), ?_⟩
    have last : ∀ (cell dg : Int), 0 ≤ dg → ∀ y, y = [some (V.ref a), some (V.int (k : Int)), some (V.int cell), some (V.int dg)] →
        (tRet (tLst (tCons (tVar 3) (tCons (tOp (rI (fun _ j => 0 < j) fun i j => .int (i % j)) (tOp (rI CMul fun i j => .int (i * j)) (tOp (rI0 fun i j => .int (i + j)) (tOp (rI0 fun i j => .int (i + j)) (tOp (rI (fun _ j => 0 < j) fun i j => .int (i % j)) (tVar 2) (tC (.int 2147483647))) (tOp (rI CMul fun i j => .int (i * j)) (tC (.int 7919)) (tVar 1))) (tC (.int 11))) (tC (.int 48271))) (tC (.int 2147483629))) (tCons (tC (.int 0)) tNil)))) : TS)
          { nx := fun _ H' => Q .non H', rt := Q } y H := fun cell dg h0 y hy => by
      subst hy
      have b1 : 0 ≤ cell % 2147483647 := Int.emod_nonneg _ (by decide)
      have b2 : cell % 2147483647 < 2147483647 := Int.emod_lt_of_pos _ (by decide)
      refine ⟨_, rfl, _, rfl, cell, 2147483647, rfl, rfl, (by show (0 : Int) < 2147483647; decide), _, rfl, 7919, (k : Int), rfl, rfl, .inl ⟨by decide, by decide⟩, _, _, rfl, rfl, _, _, rfl, rfl, _, 48271, rfl, rfl, .inr ⟨by decide, by decide⟩, _, 2147483629, rfl, rfl, (by show (0 : Int) < 2147483629; decide), by show 3 ≤ sizeLine; decide, fun p hp => q p _ hp ⟨_, _, _, rfl, h0, Int.emod_nonneg _ (by decide), Int.emod_lt_of_pos _ (by decide), Int.le_refl _, Int.le_refl _⟩⟩
    have next : ∀ cell : Int, ∃ dg : Int, 0 ≤ dg := fun _ => ⟨0, Int.le_refl _⟩
    refine ⟨_, rfl, _, rfl, a, _, rfl, .inl hS, _, _, rfl, rfl, _, rfl, ite2 (fun e => ?_) (fun e => ?_)⟩
    · have e1 := of_decide_eq_true e
      rw [List.length_map] at e1
      have hk' : k < ns.length := by omega
      refine ⟨_, rfl, _, rfl, a, _, _, .int ns[k], rfl, rfl, hS, atI_nat (by rw [List.getElem?_map, List.getElem?_eq_getElem hk']; rfl), ?_⟩
      refine ⟨_, rfl, _, rfl, 10, 18, rfl, rfl, ⟨by decide, by decide, by decide⟩, _, _, rfl, rfl, _, rfl, ite2 (fun e => ⟨_, rfl, _, rfl, last _ _ ?_ _ rfl⟩) (fun e => last _ _ (Int.le_refl _) _ rfl)⟩
      split <;> omega
    · refine ⟨_, rfl, _, rfl, 10, 18, rfl, rfl, ⟨by decide, by decide, by decide⟩, _, _, rfl, rfl, _, rfl, ite2 (fun e => ⟨_, rfl, _, rfl, last _ _ ?_ _ rfl⟩) (fun e => last _ _ (Int.le_refl _) _ rfl)⟩
      split <;> omega
theorem ok_take {f : Addr} {fd : FuncData} {k : Nat} (F : Fun K "_law_take" "_law_take" sTake f fd) : FnOk P w K mg base CX0 (k + 1) f fd ["_law_box_here", "_law_many_here"] spTakeW := by
  refine F.ok scTake (fun vs H Q E h => ?_) (fun cdv A outer s H vs Q E hr h => ?_)
  · obtain ⟨b, c, many, rfl, _⟩ := h
    rfl
  · obtain ⟨b, c, many, rfl, ⟨xs, hb, d, m, t, rfl, hd, hm, hm2, ht, htc⟩, hmany, hmany2, hc, q⟩ := h
    refine ⟨_, pss_cons (ps_if (pt_cmpR op_gt (pe_ix ix_list (pv 0) pe_int (fun _ _ => rfl)) pe_int (nomark _))
        (pss_cons (ps_set (i := 2) scTake.nd rfl (.inl rfl) (pe_op op_mod (pe_ix ix_list (pv 0) pe_int (fun _ _ => rfl)) (pv 1)))
        (pss_cons (ps_asg (pe_op op_fdivW (pe_ix ix_list (pv 0) pe_int (fun _ _ => rfl)) (pv 1)) (pg_sub (pv 0) pe_int set_list))
        (pss_one (ps_ret (pv 2))))) pss_nil)
      (pss_cons (ps_asg (pe_op op_add (pe_ix ix_list (pv 0) pe_int (fun _ _ => rfl)) pe_int) (pg_sub (pv 0) pe_int set_list))
      (pss_cons (ps_set (i := 3) scTake.nd rfl (.inl rfl) (pe_op op_mod (pe_op op_mul (pe_op op_add (pe_ix ix_list (pv 0) pe_int (fun _ _ => rfl)) (pe_op op_mul pe_int (pe_ix ix_list (pv 0) pe_int (fun _ _ => rfl)))) (pe_op op_add pe_int (pe_ix ix_list (pv 0) pe_int (fun _ _ => rfl)))) pe_int))
      (pss_cons (ps_asg (pe_op op_mod (pe_op op_add (pe_op op_mul (pv 3) (pe_op op_add (pe_op op_mod (pv 3) pe_int) pe_int)) (pe_ix ix_list (pv 0) pe_int (fun _ _ => rfl))) pe_int) (pg_sub (pv 0) pe_int set_list))
      (pss_one (ps_ret (pe_op op_mod (pe_op op_fdiv (pe_op op_mod (pe_op op_mul (pe_ix ix_list (pv 0) pe_int (fun _ _ => rfl)) (pe_op op_add (pe_op op_mod (pe_ix ix_list (pv 0) pe_int (fun _ _ => rfl)) pe_int) pe_int)) pe_int) pe_int) (pv 1))))))), ?_⟩
    refine ⟨.ref b, rfl, b, _, 0, .int d, rfl, rfl, SqL.of hb, rfl, _, 0, rfl, rfl, _, rfl, ite2 (fun e => ?_) (fun e => ?_)⟩
    · have e1 : 0 < d := of_decide_eq_true e
      refine ⟨.ref b, rfl, b, _, 0, .int d, rfl, rfl, SqL.of hb, rfl, .int many, rfl, d, many, rfl, rfl, hmany, ?_⟩
      refine ⟨.ref b, rfl, b, _, 0, .int d, rfl, rfl, SqL.of hb, rfl, .int many, rfl, d, many, rfl, rfl, wideOk hmany hmany2, .ref b, rfl, b, _, 0, 0, rfl, rfl, hb, rfl, _, rfl, ?_⟩
      refine q _ _ (Int.emod_nonneg _ (by omega)) (Int.emod_lt_of_pos _ hmany) (kp_upd (List.mem_singleton.mpr rfl)) ⟨_, upd_same, d / many, m, t, rfl, Int.ediv_nonneg hd (by omega), hm, hm2, ht, by omega⟩
    · have u1 : upd H b (.lst [.int d, .int m, .int (t + 1)]) b = some (.lst [.int d, .int m, .int (t + 1)]) := upd_same
      refine ⟨.ref b, rfl, b, _, 2, .int t, rfl, rfl, SqL.of hb, rfl, t, 1, rfl, rfl, .ref b, rfl, b, _, 2, 2, rfl, rfl, hb, rfl, ?_⟩
      refine ⟨.ref b, rfl, b, _, 1, .int m, rfl, rfl, SqL.of u1, rfl, .ref b, rfl, b, _, 2, .int (t + 1), rfl, rfl, SqL.of u1, rfl, 39373, t + 1, rfl, rfl, .inl ⟨by decide, by decide⟩, m, _, rfl, rfl,
        .ref b, rfl, b, _, 2, .int (t + 1), rfl, rfl, SqL.of u1, rfl, 48271, t + 1, rfl, rfl, _, _, rfl, rfl, .inr ⟨by omega, by omega⟩, _, 2147483647, rfl, rfl, (by show (0 : Int) < 2147483647; decide), ?_⟩
      obtain ⟨once, hon⟩ : ∃ once : Int, (m + 39373 * (t + 1)) * (48271 + (t + 1)) % 2147483647 = once := ⟨_, rfl⟩
      have o1 : 0 ≤ once % 40009 := Int.emod_nonneg _ (by decide)
      have o2 : once % 40009 < 40009 := Int.emod_lt_of_pos _ (by decide)
      obtain ⟨m3, hm3⟩ : ∃ m3 : Int, (once * (once % 40009 + 7) + (t + 1)) % 2147483629 = m3 := ⟨_, rfl⟩
      have m1 : 0 ≤ m3 := by rw [← hm3]; exact Int.emod_nonneg _ (by decide)
      have m2 : m3 < 2147483629 := by rw [← hm3]; exact Int.emod_lt_of_pos _ (by decide)
      have hon' : V.int ((m + 39373 * (t + 1)) * (48271 + (t + 1)) % 2147483647) = .int once := congrArg V.int hon
      have hm3' : V.int ((once * (once % 40009 + 7) + (t + 1)) % 2147483629) = .int m3 := congrArg V.int hm3
      have u2 : upd (upd H b (.lst [.int d, .int m, .int (t + 1)])) b (.lst [.int d, .int ((once * (once % 40009 + 7) + (t + 1)) % 2147483629), .int (t + 1)]) b = some (.lst [.int d, .int m3, .int (t + 1)]) := by rw [hm3', upd_same]
      refine ⟨_, rfl, _, rfl, once, 40009, hon', rfl, (by show (0 : Int) < 40009; decide), _, 7, rfl, rfl, once, _, hon', rfl, .inr ⟨by omega, by omega⟩, .ref b, rfl, b, _, 2, .int (t + 1), rfl, rfl, SqL.of u1, rfl, _, _, rfl, rfl, _, 2147483629, rfl, rfl, (by show (0 : Int) < 2147483629; decide),
        .ref b, rfl, b, _, 1, 1, rfl, rfl, u1, rfl, ?_⟩
      refine ⟨.ref b, rfl, b, _, 1, .int m3, rfl, rfl, SqL.of u2, rfl, .ref b, rfl, b, _, 1, .int m3, rfl, rfl, SqL.of u2, rfl, m3, 1009, rfl, rfl, (by show (0 : Int) < 1009; decide), _, 3, rfl, rfl, m3, _, rfl, rfl, .inl ⟨by omega, by omega⟩, _, 998244353, rfl, rfl, (by show (0 : Int) < 998244353; decide), _, 7, rfl, rfl, ⟨by decide, by decide⟩, .int many, rfl, _, many, rfl, rfl, hmany, ?_⟩
      exact q _ _ (Int.emod_nonneg _ (by omega)) (Int.emod_lt_of_pos _ hmany) ((kp_upd (List.mem_singleton.mpr rfl)).trans (kp_upd (List.mem_singleton.mpr rfl))) ⟨_, u2, d, m3, t + 1, rfl, hd, m1, m2, by omega, by omega⟩
end
end My

namespace My
open PySem PySem.Spec PyProof.Rows L2 GX GxR
theorem cat_read {K : PySem.W.Frag} {H : Hp} {Q : VK} {a b : Addr} {xs ys : List V} (N : Addr → Prop) (ha : H a = some (.tup xs)) (hb : H b = some (.tup ys)) (na : N a) (nb : N b) (hn : ∀ p, H p = none → N p) (hl : xs.length + ys.length ≤ sizeLine)
    (q : ∀ p H', Same H H' → N p → H' p = some (.tup (xs ++ ys)) → Q (.ref p) H') : rCatA K (.ref a) (.ref b) H Q := by
  refine ⟨a, b, xs, ys, rfl, rfl, SqT.of ha, SqT.of hb, hl, fun e => ?_, fun e1 e2 => ?_, fun e1 e2 p np => q p _ (same_upd np) (hn p np) upd_same⟩
  · subst e
    exact q b H (Same.refl _) nb hb
  · subst e2
    exact q a H (Same.refl _) na (by rw [List.append_nil]; exact ha)
end My

namespace GX
open PySem PySem.Spec PyProof.Rows L2
theorem fold_min (n : Int) : ∀ ns : List Int, (ns.foldl min n = n ∨ ns.foldl min n ∈ ns) ∧ ns.foldl min n ≤ n ∧ ∀ y ∈ ns, ns.foldl min n ≤ y := by
  intro ns
  induction ns generalizing n with
  | nil => exact ⟨.inl rfl, Int.le_refl _, fun _ h => nomatch h⟩
  | cons m r ih =>
    obtain ⟨h1, h2, h3⟩ := ih (min n m)
    rw [List.foldl_cons]
    refine ⟨?_, by omega, fun y hy => ?_⟩
    · rcases h1 with e | e
      · rw [e]
        by_cases hm : n ≤ m
        · exact .inl (by omega)
        · exact .inr (by rw [show min n m = m by omega]; exact List.mem_cons_self)
      · exact .inr (List.mem_cons_of_mem _ e)
    · rcases List.mem_cons.mp hy with e | e
      · rw [e]
        omega
      · exact h3 y e
/-- min(xs, default=d), xs a list of whole numbers -/
def rMinD (K : PySem.W.Frag) : List V → List V → Hp → VK → Prop := fun vs zs H Q => ∃ (a : Addr) (ns : List Int) (d : V), vs = [.ref a] ∧ zs = [d] ∧ SqL K H a (ns.map V.int) ∧ (ns = [] → Q d H) ∧ ∀ m, m ∈ ns → (∀ y ∈ ns, m ≤ y) → Q (.int m) H
theorem cr_minD {X : Cx} (hc : X.calm = true) (hu : X.A.units + 1 < cLine) : CallRK X (.builtin "min") ["default"] (rMinD X.K) := by
  intro pins s σ H xs zs us ws Q I r1 r2 h
  obtain ⟨a, ns, d, rfl, rfl, hq, q0, q1⟩ := h
  obtain ⟨u, rfl, ru⟩ := vals1 r1
  obtain ⟨u2, rfl, ru2⟩ := vals1 r2
  obtain rfl : u = Value.ref a := ru
  obtain ⟨its, rv, pl, _⟩ := I.list hq
  have rd : ∀ (ns : List Int) (us : List Value), Vals (ns.map V.int) us → ReadsAll s.heap us (ns.map PyData.int) [] := by
    intro ns
    induction ns with
    | nil =>
      intro us h
      cases h
      exact .nil
    | cons n r ih =>
      intro us h
      cases h with
      | cons h1 h2 =>
        obtain ⟨t, rfl⟩ := h1
        exact .cons (as := []) (bs := []) (.int n t) (ih _ h2)
  refine PySem.W.min_list_default (xs := ns.map PyData.int) (as := []) (I.ok.hd hc) pl.isList (rd ns its rv) ⟨fun x hx y hy => ?_, fun x hx => ?_⟩ (by rw [PySem.W.ke_depthAll]; exact hu) (fun e h' tk kp => ?_) (fun y ys i v h' tk bs e hv hr kp => ?_)
  · obtain ⟨i, _, rfl⟩ := List.mem_map.mp hx
    obtain ⟨j, _, rfl⟩ := List.mem_map.mp hy
    rfl
  · obtain ⟨i, _, rfl⟩ := List.mem_map.mp hx
    exact fun z => nomatch z
  · have e2 : ns = [] := by
      cases ns with
      | nil => rfl
      | cons _ _ => cases e
    exact ⟨d, H, I.kept kp, ru2, q0 e2⟩
  · cases ns with
    | nil => cases e
    | cons n r =>
      rw [List.map_cons] at e
      injection e with e1 e2
      subst e1 e2
      rw [PySem.W.minD_ints] at hr
      obtain ⟨t, rfl⟩ : ∃ t, v = Value.int (r.foldl min n) t := by
        cases hr
        exact ⟨_, rfl⟩
      obtain ⟨h1, h2, h3⟩ := fold_min n r
      refine ⟨.int (r.foldl min n), H, I.kept kp, ⟨t, rfl⟩, q1 _ ?_ fun y hy => ?_⟩
      · rcases h1 with e | e
        · rw [e]
          exact List.mem_cons_self
        · exact List.mem_cons_of_mem _ e
      · rcases List.mem_cons.mp hy with e | e
        · rw [e]
          exact h2
        · exact h3 y e
theorem fold_max (n : Int) : ∀ ns : List Int, (ns.foldl max n = n ∨ ns.foldl max n ∈ ns) ∧ n ≤ ns.foldl max n ∧ ∀ y ∈ ns, y ≤ ns.foldl max n := by
  intro ns
  induction ns generalizing n with
  | nil => exact ⟨.inl rfl, Int.le_refl _, fun _ h => nomatch h⟩
  | cons m r ih =>
    obtain ⟨h1, h2, h3⟩ := ih (max n m)
    rw [List.foldl_cons]
    refine ⟨?_, by omega, fun y hy => ?_⟩
    · rcases h1 with e | e
      · rw [e]
        by_cases hm : m ≤ n
        · exact .inl (by omega)
        · exact .inr (by rw [show max n m = m by omega]; exact List.mem_cons_self)
      · exact .inr (List.mem_cons_of_mem _ e)
    · rcases List.mem_cons.mp hy with e | e
      · rw [e]
        omega
      · exact h3 y e
/-- max(t), t a tuple of whole numbers -/
def rMaxT (K : PySem.W.Frag) : List V → Hp → VK → Prop := fun vs H Q => ∃ (a : Addr) (ns : List Int), vs = [.ref a] ∧ SqT K H a (ns.map V.int) ∧ 0 < ns.length ∧ ∀ m, m ∈ ns → (∀ y ∈ ns, y ≤ m) → Q (.int m) H
theorem cr_maxT {X : Cx} (hc : X.calm = true) (hu : X.A.units + 1 < cLine) : CallR X (.builtin "max") (rMaxT X.K) := by
  intro pins s σ H xs us Q I r1 h
  obtain ⟨a, ns, rfl, hq, hn, q1⟩ := h
  obtain ⟨u, rfl, ru⟩ := vals1 r1
  obtain rfl : u = Value.ref a := ru
  obtain ⟨its, rv, pl, _⟩ := I.tuple hq
  have rd : ∀ (ns : List Int) (us : List Value), Vals (ns.map V.int) us → ReadsAll s.heap us (ns.map PyData.int) [] := by
    intro ns
    induction ns with
    | nil =>
      intro us h
      cases h
      exact .nil
    | cons n r ih =>
      intro us h
      cases h with
      | cons h1 h2 =>
        obtain ⟨t, rfl⟩ := h1
        exact .cons (as := []) (bs := []) (.int n t) (ih _ h2)
  cases ns with
  | nil => cases hn
  | cons n r =>
    refine PySem.W.max_tuple_data (x := .int n) (xs := r.map PyData.int) (as := []) (I.ok.hd hc) pl (rd (n :: r) its rv) ⟨fun x hx y hy => ?_, fun x hx => ?_⟩ ?_ (fun i v h' tk bs hv hr kp => ?_)
    · obtain ⟨i, _, rfl⟩ := List.mem_map.mp (show x ∈ (n :: r).map PyData.int from hx)
      obtain ⟨j, _, rfl⟩ := List.mem_map.mp (show y ∈ (n :: r).map PyData.int from hy)
      rfl
    · obtain ⟨i, _, rfl⟩ := List.mem_map.mp (show x ∈ (n :: r).map PyData.int from hx)
      exact fun z => nomatch z
    · show X.A.units + 1 + PyData.depthAll ((n :: r).map PyData.int) < cLine
      rw [PySem.W.ke_depthAll]
      exact hu
    · rw [PySem.W.maxD_ints] at hr
      obtain ⟨t, rfl⟩ : ∃ t, v = Value.int (r.foldl max n) t := by
        cases hr
        exact ⟨_, rfl⟩
      obtain ⟨h1, h2, h3⟩ := fold_max n r
      refine ⟨.int (r.foldl max n), H, I.kept kp, ⟨t, rfl⟩, q1 _ ?_ fun y hy => ?_⟩
      · rcases h1 with e | e
        · rw [e]
          exact List.mem_cons_self
        · exact List.mem_cons_of_mem _ e
      · rcases List.mem_cons.mp hy with e | e
        · rw [e]
          exact h2
        · exact h3 y e
end GX

namespace My
open PySem PySem.Spec PyProof.Rows L2 GX GxR
/-- text * n -/
theorem op_mul_str {X : Cx} : OpR X (binaryOp .Mult) (fun x y H Q => ∃ z n, x = .str z ∧ y = .int n ∧ MulOk z n ∧ Q (.str (Txt.mul z n)) H) := by
  intro pins s σ H x y v u Q I rx ry h
  obtain ⟨z, n, rfl, rfl, hz, q⟩ := h
  obtain ⟨t, rfl⟩ := rx
  obtain ⟨t', rfl⟩ := ry
  exact SB.mul hz (fun t' k => ⟨.str _, H, I.tok _, ⟨_, rfl⟩, q⟩)
/-- all tuples stay -/
def KTu (H H' : Hp) : Prop := ∀ x xs, H x = some (.tup xs) → H' x = some (.tup xs)
theorem KTu.refl (H : Hp) : KTu H H := fun _ _ h => h
theorem KTu.trans {H H1 H2 : Hp} (a : KTu H H1) (b : KTu H1 H2) : KTu H H2 := fun x xs h => b x xs (a x xs h)
theorem Same.kt {H H' : Hp} (a : Same H H') : KTu H H' := fun x xs h => a x _ h
theorem Kp.kt {b : Addr} {c : Int} {H H' : Hp} (k : Kp [b] H H') (B : BoxAt H b c) : KTu H H' := fun x xs h => k x _ (fun z => by
  obtain ⟨ys, h1, _⟩ := B
  rw [List.mem_singleton.mp z, h1] at h
  cases h) h
theorem kt_upd {H : Hp} {p : Addr} {o : HO} (h : ∀ xs, H p ≠ some (.tup xs)) : KTu H (upd H p o) := fun x xs e => by
  rw [upd_ne (fun z => h xs (by rw [← z]; exact e))]
  exact e
theorem kt_new {H : Hp} {p : Addr} {o : HO} (h : H p = none) : KTu H (upd H p o) := kt_upd fun xs e => by rw [h] at e; cases e
theorem kt_put {H : Hp} {p : Addr} {o u : HO} (h : H p = some u) (n : ∀ xs, u ≠ .tup xs) : KTu H (upd H p o) := kt_upd fun xs e => by
  rw [h] at e
  exact n xs (Option.some.inj e)
theorem nb_of {H : Hp} {b p : Addr} {c : Int} (B : BoxAt H b c) (n : H p = none) : p ≠ b := fun z => by
  obtain ⟨xs, h1, _⟩ := B
  rw [z, h1] at n
  cases n
theorem kp_new {H H' : Hp} {b p : Addr} {o : HO} (k : Kp [b] H H') (n : H' p = none) : Kp [b] H (upd H' p o) := fun x u nx e => same_upd n _ _ (k _ _ nx e)
theorem kp_free {H H' : Hp} {b p : Addr} (k : Kp [b] H H') (nb : p ≠ b) (n : H' p = none) : H p = none := by
  cases h : H p with
  | none => rfl
  | some o =>
    rw [k p o (fun z => nb (List.mem_singleton.mp z)) h] at n
    cases n
theorem ixAt {n m : Nat} (h : m < n) : ixN n (m : Int) = some m := by
  have h1 : (0 : Int) ≤ (m : Int) := by omega
  have h2 : (m : Int) < (n : Int) := by omega
  simp only [ixN, h1, h2, if_true, Int.toNat_natCast]
theorem amt_app {ns : List Int} {n : Int} (h : Amt ns) (h0 : 0 ≤ n) (h1 : n ≤ 1000000000000) : Amt (ns ++ [n]) := fun x hx => by
  rcases List.mem_append.mp hx with hx | hx
  · exact h x hx
  · rw [List.mem_singleton.mp hx]
    exact ⟨h0, h1⟩
theorem kp_put {H H' : Hp} {b p : Addr} {o : HO} (k : Kp [b] H H') (n : H p = none) : Kp [b] H (upd H' p o) := fun x u nx e => by
  rw [upd_ne (ne_of_none e n)]
  exact k _ _ nx e
theorem sIx_last (n d : Nat) : HT.sIx n d (some (-1)) = n - 1 := by
  show (if (-1 : Int) < 0 then ((-1 : Int) + (n : Int)).toNat else min (-1 : Int).toNat n) = n - 1
  rw [if_pos (by decide)]
  omega
/-- a gang -/
structure Gang where
  name : Str
  guild : Str
  rank : Int
  many : Int
  want : List Int
  how : Str
  len : Int
def Gang.flat (G : Gang) (w : Addr) : List V := [.str G.name, .str G.guild, .int G.rank, .int G.many, .ref w, .str G.how, .int G.len]
def GangAt (H : Hp) (g : Addr) (G : Gang) : Prop := ∃ w, H g = some (.tup (G.flat w)) ∧ H w = some (.tup (G.want.map V.int))
def RowAt (H : Hp) (r : Addr) (R : Gang × Int) : Prop := ∃ g, H r = some (.tup [.ref g, .int R.2]) ∧ GangAt H g R.1
theorem GangAt.kt {H H' : Hp} {g : Addr} {G : Gang} (k : KTu H H') (h : GangAt H g G) : GangAt H' g G := by
  obtain ⟨w, h1, h2⟩ := h
  exact ⟨w, k _ _ h1, k _ _ h2⟩
theorem RowAt.kt {H H' : Hp} {r : Addr} {R : Gang × Int} (k : KTu H H') (h : RowAt H r R) : RowAt H' r R := by
  obtain ⟨g, h1, h2⟩ := h
  exact ⟨g, k _ _ h1, h2.kt k⟩
def hows : List Str := ["any", "apart", "near", "wide"]
structure GangOk (gs : List Str) (wr : Nat) (G : Gang) : Prop where
  guild : G.guild ∈ gs
  wlen : G.want.length = wr
  amt : Amt G.want
  some : ∃ n ∈ G.want, n ≠ 0
  m1 : 1 ≤ G.many
  m60 : G.many ≤ 60
  r0 : 0 ≤ G.rank
  r9 : G.rank ≤ 9
  l1 : 1 ≤ G.len
  l6 : G.len ≤ 1000000
  how : G.how ∈ hows
def spGang : Sp := fun vs H Q _ => ∃ (b gl : Addr) (c : Int) (name : Str) (gs : List Str) (wr : Nat) (wide : Int), vs = [.ref b, .str name, .ref gl, .int (wr : Int), .int wide] ∧ BoxAt H b c ∧ c ≤ 10000000 ∧ H gl = some (.lst (gs.map V.str)) ∧ 1 ≤ gs.length ∧ gs.length ≤ 12 ∧ 1 ≤ wr ∧ wr ≤ 8 ∧ 1 ≤ wide ∧ wide ≤ 1000000000000 ∧
  ∀ g G H', GangOk gs wr G → G.name = name → Kp [b] H H' → BoxAt H' b (c + 20) → H g = none → GangAt H' g G → Q (.ref g) H'
def spDue : Sp := fun vs H Q _ => ∃ (b : Addr) (c : Int) (wr : Nat) (wide : Int), vs = [.ref b, .int (wr : Int), .int wide] ∧ BoxAt H b c ∧ c ≤ 10000000 ∧ 1 ≤ wr ∧ wr ≤ 8 ∧ 1 ≤ wide ∧ wide ≤ 1000000000000 ∧
  ∀ p ns H', Amt ns → ns.length = wr → Kp [b] H H' → BoxAt H' b (c + 20) → H p = none → H' p = some (.tup (ns.map V.int)) → Q (.ref p) H'
/-- lists of boxes' letters and of texts are unlike -/
theorem box_strs {H : Hp} {b p : Addr} {c : Int} {zs : List Str} (B : BoxAt H b c) (h : H p = some (.lst (zs.map V.str))) : p ≠ b := fun z => by
  obtain ⟨xs, h1, d, m, t, rfl, _⟩ := B
  rw [z, h1] at h
  cases zs with
  | nil => cases h
  | cons z1 zs => cases h
theorem box_refs {H : Hp} {b p : Addr} {c : Int} {as : List Addr} (B : BoxAt H b c) (h : H p = some (.lst (as.map V.ref))) : p ≠ b := fun z => by
  obtain ⟨xs, h1, d, m, t, rfl, _⟩ := B
  rw [z, h1] at h
  cases as with
  | nil => cases h
  | cons z1 zs => cases h
theorem atL {xs : List V} {v : V} {r : Int} (h0 : 0 ≤ r) (h : xs[r.toNat]? = some v) : atI xs r = some v := by
  have := atI_nat (xs := xs) (j := r.toNat) h
  rwa [Int.toNat_of_nonneg h0] at this
end My

namespace My
open PySem PySem.Spec PyProof.Rows L2 GX GxR
theorem vals_int : ∀ {ns : List Int} {us : List Value}, Vals (ns.map V.int) us → ∀ (i : Nat) (v : Value), us[i]? = some v → ∃ n t, ns[i]? = some n ∧ v = .int n t
  | [], _, .nil, _, _, h => by simp at h
  | n :: ns, _, .cons r rs, 0, v, h => by
    obtain ⟨t, rfl⟩ := r
    cases h
    exact ⟨n, t, rfl, rfl⟩
  | n :: ns, _, .cons r rs, i + 1, v, h => vals_int rs i v (by simpa using h)
/-- any(xs), xs a list of whole numbers -/
def rAnyI (K : PySem.W.Frag) : List V → Hp → VK → Prop := fun vs H Q => ∃ (a : Addr) (ns : List Int), vs = [V.ref a] ∧ SqL K H a (ns.map V.int) ∧ Q (.bl (ns.any fun n => n != 0)) H
theorem any_at {ns : List Int} : (List.range ns.length).any (fun i => (ns.map fun n => n != 0).getD i false) = ns.any fun n => n != 0 := by
  have h := any_range (ns.map fun n => n != 0)
  rw [List.length_map] at h
  rw [h, List.any_map]
  rfl
theorem cr_anyI {X : Cx} (hc : X.calm = true) : CallR X (.builtin "any") (rAnyI X.K) := by
  intro pins s σ H vs us Q I r h
  obtain ⟨a, ns, rfl, hs, q⟩ := h
  obtain ⟨its, rv, hl, _⟩ := I.list hs
  rw [Vals.ref1 r]
  have len : its.length = ns.length := by
    have := Paired.length rv
    rw [List.length_map] at this
    exact this.symm
  refine call_any_walk (iter_any hl.isList fun s₂ e2 st hne => ?_)
  subst e2
  have tr : TruthOf X.prog X.w X.A.in1 (fun i v => its.toArray[i]? = some v) (fun i => (ns.map fun n => n != 0).getD i false) := fun i v s Q' E hv hq => by
    obtain ⟨n, t, hn, rfl⟩ := vals_int rv i v (by simpa using hv)
    have hg : (ns.map fun n => n != 0).getD i false = (n != 0) := by rw [List.getD_eq_getElem?_getD, List.getElem?_map, hn] <;> rfl
    have hq' : Q' ((ns.map fun n => n != 0).getD i false) s := hq
    rw [hg] at hq'
    exact PySem.P.truthy_int hq'
  refine ⟨_, _, _, _, _, _, _, rfl, Walks.list (A := X.A.in1) (I.ok.hd hc) _ a hne its.toArray, st, tr, fun h' tk hk => ?_⟩
  refine ⟨.bl _, H, I.kept fun b o eo => hk b o (fun hm => ?_) (Heap.get?_push_of_some _ eo), ?_, q⟩
  · rcases List.mem_cons.mp hm with e1 | hm
    · rw [e1] at eo
      exact absurd (Heap.lt_size eo) (Nat.lt_irrefl _)
    · cases hm
  · rw [List.size_toArray, len, any_at]
    rfl
end My

namespace My
open PySem PySem.Spec PyProof.Rows L2 GX GxR
abbrev sWant : Stmt := topS 22
abbrev sLeft : Stmt := topS 23
abbrev sWares : Stmt := topS 29
theorem scWares : FnScope ["_law_box_here"] ["_law_box_here"] (defScope sWares) := ⟨rfl, rfl, rfl, by decide +kernel, rfl, by decide +kernel, by decide +kernel⟩
theorem scWant : FnScope ["_law_box_here", "_law_wares_here", "_law_want_here", "_law_k", "_law_some"] ["_law_box_here", "_law_wares_here"] (defScope sWant) := ⟨rfl, rfl, rfl, by decide +kernel, rfl, by decide +kernel, by decide +kernel⟩
theorem scLeft : FnScope ["_law_box_here", "_law_want_here", "_law_some", "_law_many_here", "_law_left_here", "_law_one"] ["_law_box_here", "_law_want_here"] (defScope sLeft) := ⟨rfl, rfl, rfl, by decide +kernel, rfl, by decide +kernel, by decide +kernel⟩
def spWares : Sp := fun vs H Q _ => ∃ (b : Addr) (c : Int), vs = [.ref b] ∧ BoxAt H b c ∧ c ≤ 100000000 ∧ ∀ n H', 1 ≤ n → n ≤ 8 → Kp [b] H H' → BoxAt H' b (c + 2) → Q (.int n) H'
/-- a want: not all noughts -/
def spWant : Sp := fun vs H Q _ => ∃ (b : Addr) (c : Int) (k : Nat), vs = [.ref b, .int (k : Int)] ∧ BoxAt H b c ∧ c ≤ 10000000 ∧ 1 ≤ k ∧ k ≤ 8 ∧
  ∀ p ns H', Amt ns → (∃ n ∈ ns, n ≠ 0) → ns.length = k → Kp [b] H H' → BoxAt H' b (c + 100) → H p = none → H' p = some (.tup (ns.map V.int)) → Q (.ref p) H'
section
variable {P : Program} {w : World} {K : PySem.W.Frag} {mg : Str → Option Value} {base : Heap}
theorem ok_wares {f fT : Addr} {fd fdT : FuncData} {k : Nat} (F : Fun K "_law_wares" "_law_wares" sWares f fd) (GT : FnOk P w K mg base CX0 k fT fdT ["_law_box_here", "_law_many_here"] spTakeW) (mT : mg "_law_take" = some (.ref fT)) (kT : PySem.W.keepIn K (.ref fT) = true) (bT : Binds K fdT ["_law_box_here", "_law_many_here"] [])
    : FnOk P w K mg base CX0 (k + 1) f fd ["_law_box_here"] spWares := by
  refine F.ok scWares (fun vs H Q E h => ?_) (fun cdv A outer s H vs Q E hr h => ?_)
  · obtain ⟨b, c, rfl, _⟩ := h
    rfl
  · obtain ⟨b, c, rfl, hB, hc, q⟩ := h
    refine ⟨_, pss_one (ps_ret (pe_ix ix_list (pe_lst (pa_cons pe_int (pa_cons pe_int (pa_cons pe_int (pa_cons (pe_op op_add pe_int (pe_call GT hr (by rfl) mT kT bT .nil pass0 (pa_cons (pv 0) (pa_cons pe_int pa_nil)))) pa_nil))))) (pe_call GT hr (by rfl) mT kT bT .nil pass0 (pa_cons (pv 0) (pa_cons pe_int pa_nil))) (fun _ _ => rfl))), ?_⟩
    refine ⟨_, rfl, b, c, 8, rfl, hB, by decide, by decide, by omega, fun r1 H1 r10 r11 k1 B1 => ⟨1, r1, rfl, rfl, by show 4 ≤ sizeLine; decide, fun l nl => ?_⟩⟩
    refine ⟨_, rfl, b, _, 4, rfl, B1.same (same_upd nl), by decide, by decide, by omega, fun r2 H2 r20 r21 k2 B2 => ?_⟩
    have el := k2 _ _ (fun z => nb_of B1 nl (List.mem_singleton.mp z)) upd_same
    have kk : Kp [b] H H2 := (kp_new k1 nl).trans k2
    have hv : ∃ n : Int, 1 ≤ n ∧ n ≤ 8 ∧ atI [V.int 1, .int 2, .int 3, .int (1 + r1)] r2 = some (.int n) := by
      obtain ⟨m, rfl⟩ : ∃ m : Nat, r2 = (m : Int) := ⟨r2.toNat, by omega⟩
      rcases m with _ | _ | _ | _ | m
      · exact ⟨1, by decide, by decide, rfl⟩
      · exact ⟨2, by decide, by decide, rfl⟩
      · exact ⟨3, by decide, by decide, rfl⟩
      · exact ⟨1 + r1, by omega, by omega, rfl⟩
      · exact absurd r21 (by omega)
    obtain ⟨n, n1, n8, hn⟩ := hv
    refine ⟨l, _, r2, .int n, rfl, rfl, SqL.of el, hn, q n H2 n1 n8 kk ?_⟩
    rw [show c + 2 = c + 1 + 1 by omega]
    exact B2
theorem any_some {ns : List Int} (h : (ns.any fun n => n != 0) = true) : ∃ n ∈ ns, n ≠ 0 := by
  obtain ⟨n, hn, h2⟩ := List.any_eq_true.mp h
  exact ⟨n, hn, by simpa using h2⟩
theorem ok_want {f fT : Addr} {fd fdT : FuncData} {k : Nat} (F : Fun K "_law_want" "_law_want" sWant f fd) (T : Txt mg) (mAny : mg "any" = none) (GT : FnOk P w K mg base CX0 k fT fdT ["_law_box_here", "_law_many_here"] spTakeW) (mT : mg "_law_take" = some (.ref fT)) (kT : PySem.W.keepIn K (.ref fT) = true) (bT : Binds K fdT ["_law_box_here", "_law_many_here"] [])
    : FnOk P w K mg base CX0 (k + 1) f fd ["_law_box_here", "_law_wares_here"] spWant := by
  refine F.ok scWant (fun vs H Q E h => ?_) (fun cdv A outer s H vs Q E hr h => ?_)
  · obtain ⟨b, c, k, rfl, _⟩ := h
    rfl
  · obtain ⟨b, c, k, rfl, hB, hc, k1, k8, q⟩ := h
    refine ⟨_, pss_cons (ps_set (i := 2) scWant.nd rfl (.inl rfl) (pe_lst pa_nil))
      (pss_cons (ps_for PassesOwn.never rfl (pi_range1 (by rfl) T.range (pa_cons (pv 1) pa_nil)) (pg_name (i := 3) scWant.nd rfl (.inl rfl))
        (pss_cons (ps_set (i := 4) scWant.nd rfl (.inl rfl) (pe_lst (pa_cons pe_int (pa_cons (pe_op op_add pe_int (pe_call GT hr (by rfl) mT kT bT .nil pass0 (pa_cons (pv 0) (pa_cons pe_int pa_nil)))) (pa_cons (pe_op op_add pe_int (pe_call GT hr (by rfl) mT kT bT .nil pass0 (pa_cons (pv 0) (pa_cons pe_int pa_nil)))) (pa_cons (pe_op op_add pe_int (pe_call GT hr (by rfl) mT kT bT .nil pass0 (pa_cons (pv 0) (pa_cons (pe_op op_pow pe_int pe_int) pa_nil)))) pa_nil))))))
        (pss_one (ps_expr (pe_bm PySem.F.plainAttrs_list PySem.F.slot_list_append PySem.F.type_list_append mt_append (pv 2) (pa_cons (pe_ix ix_list (pv 4) (pe_call GT hr (by rfl) mT kT bT .nil pass0 (pa_cons (pv 0) (pa_cons pe_int pa_nil))) (fun _ _ => rfl)) pa_nil))))))
      (pss_cons (ps_if (pt_not (pt_val (pe_callB (cr_anyI rfl) (by rfl) mAny (by decide +kernel) (pa_cons (pv 2) pa_nil))))
        (pss_one (ps_asg (pe_ix ix_list (pe_lst (pa_cons (pe_op op_add pe_int (pe_call GT hr (by rfl) mT kT bT .nil pass0 (pa_cons (pv 0) (pa_cons pe_int pa_nil)))) (pa_cons (pe_op op_pow pe_int pe_int) pa_nil))) (pe_op op_fdiv (pe_call GT hr (by rfl) mT kT bT .nil pass0 (pa_cons (pv 0) (pa_cons pe_int pa_nil))) pe_int) (fun _ _ => rfl)) (pg_sub (pv 2) (pe_call GT hr (by rfl) mT kT bT .nil pass0 (pa_cons (pv 0) (pa_cons (pv 1) pa_nil))) set_list))) pss_nil)
      (pss_one (ps_ret (pe_callTy call_tuple_of (by rfl) T.tup bt_tuple (pa_cons (pv 2) pa_nil)))))), ?_⟩
    refine ⟨by show 0 ≤ sizeLine; decide, fun l nl => ?_⟩
    have lb := nb_of hB nl
    have lb' : l ∉ [b] := fun z => lb (List.mem_singleton.mp z)
    refine ⟨_, rfl, (k : Int), rfl, by omega, by omega, ?_⟩
    rw [Int.toNat_natCast]
    refine for_range (lo := 0) (n := k) (fun i σ H' => ∃ y3 y4, σ = [some (.ref b), some (.int (k : Int)), some (.ref l), y3, y4] ∧ Kp [b] H H' ∧ BoxAt H' b (c + 4 * i) ∧ ∃ ns, H' l = some (.lst (ns.map V.int)) ∧ ns.length = i ∧ Amt ns)
      ⟨none, none, rfl, (Kp.refl _ _).trans (Same.kp _ (same_upd nl)), (hB.same (same_upd nl)).le (by omega), [], upd_same, rfl, fun _ h => (nomatch h)⟩ (fun i σ H1 hi p => ?_) (fun σ H1 p => ?_)
    · obtain ⟨y3, y4, rfl, p1, p2, ns, p3, p4, p5⟩ := p
      refine ⟨_, rfl, b, _, 4, rfl, p2, by decide, by decide, by omega, fun r1 H2 a1 b1 k2 B2 => ⟨1, r1, rfl, rfl, ?_⟩⟩
      refine ⟨_, rfl, b, _, 4, rfl, B2, by decide, by decide, by omega, fun r2 H3 a2 b2 k3 B3 => ⟨1, r2, rfl, rfl, ?_⟩⟩
      refine ⟨_, rfl, 10, 9, rfl, rfl, ⟨by decide, by decide, by decide⟩, b, _, _, rfl, B3, by decide, by decide, by omega, fun r3 H4 a3 b3 k4 B4 => ⟨1, r3, rfl, rfl, by show 4 ≤ sizeLine; decide, fun l2 n2 => ?_⟩⟩
      have kk := ((p1.trans k2).trans k3).trans k4
      have l2b := nb_of B4 n2
      have e4 := k4 _ _ lb' (k3 _ _ lb' (k2 _ _ lb' p3))
      refine ⟨_, rfl, .inl ⟨rfl, _, SqL.of (same_upd n2 _ _ e4)⟩, _, rfl, _, rfl, b, _, 4, rfl, B4.same (same_upd n2), by decide, by decide, by omega, fun r4 H5 a4 b4 k5 B5 => ?_⟩
      have e5 := k5 _ _ (fun z => l2b (List.mem_singleton.mp z)) upd_same
      have e6 := k5 _ _ lb' (same_upd n2 _ _ e4)
      have b3' : r3 < 1000000000 := b3
      have hv : ∃ n : Int, 0 ≤ n ∧ n ≤ 1000000000000 ∧ atI [V.int 0, .int (1 + r1), .int (1 + r2), .int (1 + r3)] r4 = some (.int n) := by
        obtain ⟨m, rfl⟩ : ∃ m : Nat, r4 = (m : Int) := ⟨r4.toNat, by omega⟩
        rcases m with _ | _ | _ | _ | m
        · exact ⟨0, by decide, by decide, rfl⟩
        · exact ⟨1 + r1, by omega, by omega, rfl⟩
        · exact ⟨1 + r2, by omega, by omega, rfl⟩
        · exact ⟨1 + r3, by omega, by omega, rfl⟩
        · exact absurd b4 (by omega)
      obtain ⟨n, n0, n1, hn⟩ := hv
      refine ⟨l2, _, r4, .int n, rfl, rfl, SqL.of e5, hn, l, _, _, rfl, rfl, e6, ?_, ?_⟩
      · rw [List.length_map, p4]
        exact small1000 (by omega)
      have k6 := (kp_new (o := .lst [V.int 0, .int (1 + r1), .int (1 + r2), .int (1 + r3)]) kk n2).trans k5
      refine ⟨_, _, rfl, kp_put k6 nl, ?_, ns ++ [n], ?_, ?_, amt_app p5 n0 n1⟩
      · obtain ⟨xs, h1, h2⟩ := B5.le (c' := c + 4 * ((i + 1 : Nat) : Int)) (by omega)
        exact ⟨xs, by rw [upd_ne lb.symm]; exact h1, h2⟩
      · rw [upd_same, List.map_append]
        rfl
      · rw [List.length_append, p4]
        rfl
    · obtain ⟨y3, y4, rfl, p1, p2, ns, p3, p4, p5⟩ := p
      refine ⟨_, rfl, l, ns, rfl, SqL.of p3, _, rfl, ?_⟩
      cases hz : (ns.any fun n => n != 0) with
      | true =>
        refine iteF ?_
        refine ⟨_, rfl, l, _, rfl, .inl ⟨SqL.of p3, fun p np => ?_⟩⟩
        exact q p ns _ p5 (any_some hz) p4 (kp_new p1 np) ((p2.same (same_upd np)).le (by omega)) (kp_free p1 (nb_of p2 np) np) upd_same
      | false =>
        refine iteT ?_
        refine ⟨_, rfl, b, _, 5, rfl, p2, by decide, by decide, by omega, fun r1 H2 a1 b1 k2 B2 => ⟨1, r1, rfl, rfl, 10, 12, rfl, rfl, ⟨by decide, by decide, by decide⟩, by show 2 ≤ sizeLine; decide, fun l2 n2 => ?_⟩⟩
        have l2b := nb_of B2 n2
        have e2 := k2 _ _ lb' p3
        refine ⟨_, rfl, b, _, 8, rfl, B2.same (same_upd n2), by decide, by decide, by omega, fun r2 H3 a2 b2 k3 B3 => ⟨r2, 7, rfl, rfl, ⟨by decide, by decide⟩, ?_⟩⟩
        have e3 := k3 _ _ (fun z => l2b (List.mem_singleton.mp z)) upd_same
        have e4 := k3 _ _ lb' (same_upd n2 _ _ e2)
        have hv : ∃ n : Int, 0 ≤ n ∧ n ≤ 1000000000000 ∧ n ≠ 0 ∧ atI [V.int (1 + r1), .int (10 ^ (12 : Int).toNat)] (r2 / 7) = some (.int n) := by
          obtain ⟨m, hm⟩ : ∃ m : Nat, r2 / 7 = (m : Int) := ⟨(r2 / 7).toNat, by omega⟩
          rw [hm]
          rcases m with _ | _ | m
          · exact ⟨1 + r1, by omega, by omega, by omega, rfl⟩
          · exact ⟨1000000000000, by decide, by decide, by decide, rfl⟩
          · exact absurd hm (by omega)
        obtain ⟨n, n0, n1, nz, hn⟩ := hv
        have k5 := (kp_new (o := .lst [V.int (1 + r1), .int (10 ^ (12 : Int).toNat)]) (p1.trans k2) n2).trans k3
        refine ⟨l2, _, r2 / 7, .int n, rfl, rfl, SqL.of e3, hn, _, rfl, _, rfl, _, rfl, b, _, (k : Int), rfl, B3, by omega, by omega, by omega, fun r3 H4 a3 b3 k4 B4 => ?_⟩
        have e5 := k4 _ _ lb' e4
        obtain ⟨m, rfl⟩ : ∃ m : Nat, r3 = (m : Int) := ⟨r3.toNat, by omega⟩
        have hm : m < ns.length := by omega
        refine ⟨l, _, (m : Int), m, rfl, rfl, e5, ?_, ?_⟩
        · rw [List.length_map]
          exact ixAt hm
        have k6 := kp_put (o := .lst ((ns.map V.int).set m (.int n))) (k5.trans k4) nl
        have B6 : BoxAt (upd H4 l (.lst ((ns.map V.int).set m (.int n)))) b (c + 90) := by
          obtain ⟨xs, h1, h2⟩ := B4.le (c' := c + 90) (by omega)
          exact ⟨xs, by rw [upd_ne lb.symm]; exact h1, h2⟩
        have es : (ns.map V.int).set m (.int n) = (ns.set m n).map V.int := by rw [List.map_set]
        rw [es] at k6 B6 ⊢
        have e6 : upd H4 l (.lst ((ns.set m n).map V.int)) l = some (.lst ((ns.set m n).map V.int)) := upd_same
        generalize upd H4 l (.lst ((ns.set m n).map V.int)) = H7 at k6 B6 e6 ⊢
        refine ⟨_, rfl, l, _, rfl, .inl ⟨SqL.of e6, fun p np => ?_⟩⟩
        refine q p (ns.set m n) _ (fun x hx => ?_) ⟨n, List.mem_set hm n, nz⟩ (by rw [List.length_set]; exact p4) (kp_new k6 np) ((B6.same (same_upd np)).le (by omega)) (kp_free k6 (nb_of B6 np) np) upd_same
        rcases List.mem_or_eq_of_mem_set hx with hx | hx
        · exact p5 x hx
        · rw [hx]
          exact ⟨n0, n1⟩
/-- what is left in a house -/
def spLeft (K : PySem.W.Frag) : Sp := fun vs H Q _ => ∃ (b pw : Addr) (c : Int) (ns : List Int), vs = [.ref b, .ref pw] ∧ BoxAt H b c ∧ c ≤ 100000000 ∧ H pw = some (.tup (ns.map V.int)) ∧ Amt ns ∧ ns.length ≤ 8 ∧
  ∀ p ls H', Amt ls → ls.length = ns.length → Kp [b] H H' → BoxAt H' b (c + 40) → H p = none → H' p = some (.tup (ls.map V.int)) → Q (.ref p) H'
theorem ok_left {f fT : Addr} {fd fdT : FuncData} {k : Nat} (F : Fun K "_law_left" "_law_left" sLeft f fd) (T : Txt mg) (GT : FnOk P w K mg base CX0 k fT fdT ["_law_box_here", "_law_many_here"] spTakeW) (mT : mg "_law_take" = some (.ref fT)) (kT : PySem.W.keepIn K (.ref fT) = true) (bT : Binds K fdT ["_law_box_here", "_law_many_here"] [])
    : FnOk P w K mg base CX0 (k + 1) f fd ["_law_box_here", "_law_want_here"] (spLeft K) := by
  refine F.ok scLeft (fun vs H Q E h => ?_) (fun cdv A outer s H vs Q E hr h => ?_)
  · obtain ⟨b, pw, c, ns, rfl, _⟩ := h
    rfl
  · obtain ⟨b, pw, c, ns, rfl, hB, hc, hW, hA, h8, q⟩ := h
    refine ⟨_, pss_cons (ps_set (i := 2) scLeft.nd rfl (.inl rfl) (pe_lst (pa_cons (pe_call GT hr (by rfl) mT kT bT .nil pass0 (pa_cons (pv 0) (pa_cons pe_int pa_nil))) (pa_cons (pe_call GT hr (by rfl) mT kT bT .nil pass0 (pa_cons (pv 0) (pa_cons pe_int pa_nil))) (pa_cons (pe_op op_add pe_int (pe_call GT hr (by rfl) mT kT bT .nil pass0 (pa_cons (pv 0) (pa_cons pe_int pa_nil)))) pa_nil)))))
      (pss_cons (ps_set (i := 3) scLeft.nd rfl (.inl rfl) (pe_ix ix_list (pv 2) (pe_op op_fdiv (pe_op op_mul (pe_call GT hr (by rfl) mT kT bT .nil pass0 (pa_cons (pv 0) (pa_cons pe_int pa_nil))) pe_int) pe_int) (fun _ _ => rfl)))
      (pss_cons (ps_set (i := 4) scLeft.nd rfl (.inl rfl) (pe_lst pa_nil))
      (pss_cons (ps_for PassesOwn.never rfl (pi_tup (pv 1)) (pg_name (i := 5) scLeft.nd rfl (.inl rfl))
        (pss_cons (ps_set (i := 2) scLeft.nd rfl (.inl rfl) (pe_lst (pa_cons pe_int (pa_cons pe_int (pa_cons (pe_call GT hr (by rfl) mT kT bT .nil pass0 (pa_cons (pv 0) (pa_cons (pe_op op_add (pv 5) pe_int) pa_nil))) (pa_cons (pe_un un_neg pe_int) (pa_cons (pe_call GT hr (by rfl) mT kT bT .nil pass0 (pa_cons (pv 0) (pa_cons (pe_op op_add (pe_op op_pow pe_int pe_int) pe_int) pa_nil))) pa_nil)))))))
        (pss_one (ps_expr (pe_bm PySem.F.plainAttrs_list PySem.F.slot_list_append PySem.F.type_list_append mt_append (pv 4) (pa_cons
          (pe_callB (call_min2 rfl) (by rfl) T.min (by decide +kernel) (pa_cons (pe_op op_pow pe_int pe_int) (pa_cons (pe_callB (call_max2 rfl) (by rfl) T.max (by decide +kernel) (pa_cons pe_int (pa_cons (pe_op op_add (pe_op op_mul (pv 5) (pv 3)) (pe_ix ix_list (pv 2) (pe_call GT hr (by rfl) mT kT bT .nil pass0 (pa_cons (pv 0) (pa_cons pe_int pa_nil))) (fun _ _ => rfl))) pa_nil))) pa_nil))) pa_nil))))))
      (pss_one (ps_ret (pe_callTy call_tuple_of (by rfl) T.tup bt_tuple (pa_cons (pv 4) pa_nil))))))), ?_⟩
    have wb : pw ∉ [b] := fun z => by
      obtain ⟨xs, h1, _⟩ := hB
      rw [List.mem_singleton.mp z, h1] at hW
      cases hW
    refine ⟨_, rfl, b, _, 4, rfl, hB, by decide, by decide, by omega, fun r1 H1 a1 b1 k1 B1 => ?_⟩
    refine ⟨_, rfl, b, _, 9, rfl, B1, by decide, by decide, by omega, fun r2 H2 a2 b2 k2 B2 => ?_⟩
    refine ⟨_, rfl, b, _, 4, rfl, B2, by decide, by decide, by omega, fun r3 H3 a3 b3 k3 B3 => ⟨60, r3, rfl, rfl, by show 3 ≤ sizeLine; decide, fun l nl => ?_⟩⟩
    have kk := (k1.trans k2).trans k3
    have lb := nb_of B3 nl
    refine ⟨_, rfl, _, rfl, b, _, 8, rfl, B3.same (same_upd nl), by decide, by decide, by omega, fun r4 H4 a4 b4 k4 B4 => ⟨r4, 3, rfl, rfl, .inr ⟨by decide, by decide⟩, _, 8, rfl, rfl, ⟨by decide, by decide⟩, ?_⟩⟩
    have e4 := k4 _ _ (fun z => lb (List.mem_singleton.mp z)) upd_same
    have hv : ∃ n : Int, 0 ≤ n ∧ n ≤ 64 ∧ atI [V.int r1, .int r2, .int (60 + r3)] (r4 * 3 / 8) = some (.int n) := by
      obtain ⟨m, hm⟩ : ∃ m : Nat, r4 * 3 / 8 = (m : Int) := ⟨(r4 * 3 / 8).toNat, by omega⟩
      rw [hm]
      rcases m with _ | _ | _ | m
      · exact ⟨r1, by omega, by omega, rfl⟩
      · exact ⟨r2, by omega, by omega, rfl⟩
      · exact ⟨60 + r3, by omega, by omega, rfl⟩
      · exact absurd hm (by omega)
    obtain ⟨mn, mn0, mn1, hmn⟩ := hv
    have k5 := (kp_new (o := .lst [V.int r1, .int r2, .int (60 + r3)]) kk nl).trans k4
    refine ⟨l, _, _, .int mn, rfl, rfl, SqL.of e4, hmn, by show 0 ≤ sizeLine; decide, fun l2 n2 => ?_⟩
    have l2b := nb_of B4 n2
    have l2b' : l2 ∉ [b] := fun z => l2b (List.mem_singleton.mp z)
    have f2 : H l2 = none := kp_free k5 l2b n2
    refine ⟨_, rfl, pw, rfl, ⟨_, SqT.of (same_upd n2 _ _ (k5 _ _ wb hW))⟩, ?_⟩
    refine for_tup (xs := ns.map V.int) (fun i σ H' => ∃ y2 y5, σ = [some (.ref b), some (.ref pw), y2, some (.int mn), some (.ref l2), y5] ∧ Kp [b] H H' ∧ BoxAt H' b (c + 4 + 3 * i) ∧ ∃ ls, H' l2 = some (.lst (ls.map V.int)) ∧ ls.length = i ∧ Amt ls)
      ⟨_, none, rfl, kp_new k5 n2, (B4.same (same_upd n2)).le (by omega), [], upd_same, rfl, fun _ h => (nomatch h)⟩ (fun i σ H' _ p => ?_) (fun i x σ H5 hx p => ?_) (fun σ H5 p => ?_)
    · obtain ⟨_, _, _, p1, _⟩ := p
      exact SqT.of (p1 _ _ wb hW)
    · obtain ⟨y2, y5, rfl, p1, p2, ls, p3, p4, p5⟩ := p
      obtain ⟨one, ho, rfl⟩ : ∃ one, ns[i]? = some one ∧ x = .int one := by
        rw [List.getElem?_map] at hx
        cases h : ns[i]? with
        | none => rw [h] at hx; cases hx
        | some one =>
          rw [h] at hx
          exact ⟨one, rfl, (Option.some.inj hx).symm⟩
      obtain ⟨o0, o1⟩ := hA one (List.mem_of_getElem? ho)
      have hi : i < ns.length := (List.getElem?_eq_some_iff.mp ho).1
      refine ⟨_, rfl, _, rfl, one, 2, rfl, rfl, b, _, one + 2, rfl, p2, by omega, by omega, by omega, fun u1 H6 c1 d1 k6 B6 => ⟨1, rfl, ?_⟩⟩
      refine ⟨_, rfl, 10, 12, rfl, rfl, ⟨by decide, by decide, by decide⟩, _, 1, rfl, rfl, b, _, _, rfl, B6, by decide, by decide, by omega, fun u2 H7 c2 d2 k7 B7 => ⟨by show 5 ≤ sizeLine; decide, fun l3 n3 => ?_⟩⟩
      have e7 := k7 _ _ l2b' (k6 _ _ l2b' p3)
      have l3b := nb_of B7 n3
      have d2' : u2 < 1000000000001 := d2
      refine ⟨_, rfl, .inl ⟨rfl, _, SqL.of (same_upd n3 _ _ e7)⟩, 10, 12, rfl, rfl, ⟨by decide, by decide, by decide⟩, _, rfl, _, rfl, one, mn, rfl, rfl, .inr ⟨by omega, by omega⟩, _, rfl, _, rfl, b, _, 5, rfl, B7.same (same_upd n3), by decide, by decide, by omega, fun u3 H8 c3 d3 k8 B8 => ?_⟩
      have e8 := k8 _ _ (fun z => l3b (List.mem_singleton.mp z)) upd_same
      have e9 := k8 _ _ l2b' (same_upd n3 _ _ e7)
      have hv : ∃ n : Int, atI [V.int 0, .int 0, .int u1, .int (-1), .int u2] u3 = some (.int n) := by
        obtain ⟨m, rfl⟩ : ∃ m : Nat, u3 = (m : Int) := ⟨u3.toNat, by omega⟩
        rcases m with _ | _ | _ | _ | _ | m
        · exact ⟨0, rfl⟩
        · exact ⟨0, rfl⟩
        · exact ⟨u1, rfl⟩
        · exact ⟨-1, rfl⟩
        · exact ⟨u2, rfl⟩
        · exact absurd d3 (by omega)
      obtain ⟨n, hn⟩ := hv
      refine ⟨l3, _, u3, .int n, rfl, rfl, SqL.of e8, hn, _, _, rfl, rfl, 0, _, rfl, _, _, rfl, l2, _, _, rfl, rfl, e9, ?_, ?_⟩
      · rw [List.length_map, p4]
        exact small1000 (by omega)
      obtain ⟨v, hv, v0, v1⟩ : ∃ v : Int, (if (if one * mn + n > 0 then one * mn + n else 0) < 10 ^ (12 : Int).toNat then (if one * mn + n > 0 then one * mn + n else 0) else 10 ^ (12 : Int).toNat) = v ∧ 0 ≤ v ∧ v ≤ 1000000000000 := by
        refine ⟨_, rfl, ?_, ?_⟩
        · have : (10 : Int) ^ (12 : Int).toNat = 1000000000000 := by decide
          rw [this]
          split <;> (try split) <;> omega
        · have : (10 : Int) ^ (12 : Int).toNat = 1000000000000 := by decide
          rw [this]
          split <;> omega
      have k9 := (kp_new (o := .lst [V.int 0, .int 0, .int u1, .int (-1), .int u2]) ((p1.trans k6).trans k7) n3).trans k8
      refine ⟨_, _, rfl, kp_put k9 f2, ?_, ls ++ [v], ?_, ?_, amt_app p5 v0 v1⟩
      · obtain ⟨xs, h1, h2⟩ := B8.le (c' := c + 4 + 3 * ((i + 1 : Nat) : Int)) (by omega)
        exact ⟨xs, by rw [upd_ne l2b.symm]; exact h1, h2⟩
      · rw [upd_same, List.map_append, ← hv]
        rfl
      · rw [List.length_append, p4]
        rfl
    · obtain ⟨y2, y5, rfl, p1, p2, ls, p3, p4, p5⟩ := p
      rw [List.length_map] at p4 p2
      refine ⟨_, rfl, l2, _, rfl, .inl ⟨SqL.of p3, fun p np => ?_⟩⟩
      exact q p ls _ p5 p4 (kp_new p1 np) ((p2.same (same_upd np)).le (by omega)) (kp_free p1 (nb_of p2 np) np) upd_same
end
end My

namespace My
open PySem PySem.Spec PyProof.Rows L2 GX GxR
abbrev sDrawn : Stmt := topS 21
abbrev nD : List Str := ["_law_box_here", "_law_many_here", "_law_pool", "_law_k"]
theorem scDrawn : FnScope nD ["_law_box_here", "_law_many_here"] (defScope sDrawn) := ⟨rfl, rfl, rfl, by decide +kernel, rfl, by decide +kernel, by decide +kernel⟩
theorem perm_pop {α : Type} : ∀ (l : List α) (i : Nat) (x : α), l[i]? = some x → (x :: l.eraseIdx i).Perm l
  | [], _, _, h => by simp at h
  | a :: l, 0, x, h => by
    cases h
    exact .refl _
  | a :: l, i + 1, x, h => by
    have ih := perm_pop l i x (by simpa using h)
    exact (List.Perm.swap a x _).trans (ih.cons a)
theorem erase_map {α β : Type} {f : α → β} : ∀ (l : List α) (i : Nat), (l.map f).eraseIdx i = (l.eraseIdx i).map f
  | [], _ => rfl
  | _ :: _, 0 => rfl
  | a :: l, i + 1 => congrArg (f a :: ·) (erase_map l i)
theorem nodup_pop {α : Type} {d l : List α} {i : Nat} {x : α} (h : l[i]? = some x) (nd : (d ++ l).Nodup) : ((d ++ [x]) ++ l.eraseIdx i).Nodup := by
  rw [List.append_assoc]
  have p := perm_pop l i x h
  exact (List.Perm.nodup_iff (List.Perm.append_left d p)).mpr nd
def pool1 : List Str := Txt.split "a aa ab b ba box c cab d da dab e f ff g h hall k m mm n north o p" " "
def pool2 : List Str := Txt.split "q quartzes r s t u v w x y ya yard z za zebra zz" " "
theorem pool_len : (pool1 ++ pool2).length = 40 := by decide +kernel
/-- a name: a text, not the empty one -/
def nmOk (z : Str) : Bool := PySem.PyData.strOk z && decide (z ≠ Str.ofString "nosuch")
theorem nm_ok {z : Str} (h : nmOk z = true) : PySem.PyData.strOk z = true := (Bool.and_eq_true _ _ ▸ h : _ ∧ _).1
theorem nm_ne {z : Str} (h : nmOk z = true) : z ≠ Str.ofString "nosuch" := of_decide_eq_true (Bool.and_eq_true _ _ ▸ h : _ ∧ _).2
theorem pool_ok : ∀ z ∈ pool1 ++ pool2, nmOk z = true := by
  have h : ((pool1 ++ pool2).all fun z => nmOk z) = true := by decide +kernel
  exact fun z hz => List.all_eq_true.mp h z hz
theorem pool_nd : (pool1 ++ pool2).Nodup := by decide +kernel
/-- unlike names -/
def spDrawn : Sp := fun vs H Q _ => ∃ (b : Addr) (c : Int) (k : Nat), vs = [.ref b, .int (k : Int)] ∧ BoxAt H b c ∧ c ≤ 100000000 ∧ k ≤ 40 ∧
  ∀ (p : Addr) (zs : List Str) (H' : Hp), zs.length = k → zs.Nodup → (∀ z ∈ zs, nmOk z = true) → Kp [b] H H' → BoxAt H' b (c + 40) → H p = none → H' p = some (.lst (zs.map V.str)) → Q (.ref p) H'
section
variable {P : Program} {w : World} {K : PySem.W.Frag} {mg : Str → Option Value} {base : Heap}
theorem ok_drawn {f fT : Addr} {fd fdT : FuncData} {k : Nat} (F : Fun K "_law_drawn_names" "_law_drawn_names" sDrawn f fd) (T : Txt mg) (GT : FnOk P w K mg base CX0 k fT fdT ["_law_box_here", "_law_many_here"] spTakeW) (mT : mg "_law_take" = some (.ref fT)) (kT : PySem.W.keepIn K (.ref fT) = true) (bT : Binds K fdT ["_law_box_here", "_law_many_here"] [])
    : FnOk P w K mg base CX0 (k + 1) f fd ["_law_box_here", "_law_many_here"] spDrawn := by
  refine F.ok scDrawn (fun vs H Q E h => ?_) (fun cdv A outer s H vs Q E hr h => ?_)
  · obtain ⟨b, c, k, rfl, _⟩ := h
    rfl
  · obtain ⟨b, c, k, rfl, hB, hc, k40, q⟩ := h
    refine ⟨_, pss_cons (ps_set (i := 2) scDrawn.nd rfl (.inr rfl) (pe_split pe_str pe_str))
      (pss_cons (ps_set (i := 2) scDrawn.nd rfl (.inr rfl) (pe_op op_cat (pv 2) (pe_split pe_str pe_str)))
      (pss_one (ps_ret (pe_lc (own := [("_law_k", 3)]) (g := gName 3) (tt := tYes) (te := tBM K "list" rPopAt (tVar 2) (tCons (tCall spTakeW [] E0 (tCons (tVar 0) (tCons (tCB (fun xs H Q => ∃ p ys, xs = [.ref p] ∧ (SqL K H p ys ∨ SqT K H p ys) ∧ Q (.int ys.length) H) (tCons (tVar 2) tNil)) tNil))) tNil)) rfl scDrawn.nd
        (pi_range1 (by rfl) T.range (pa_cons (pv 1) pa_nil)) (blkOk_by (own := [("_law_k", 3)]) (N := nD) (sc := defScope sDrawn) (by decide +kernel))
        (fun _ _ _ _ _ => pg_name (i := 3) scDrawn.nd rfl (Or.inl rfl)) (fun _ _ _ _ _ => pts_nil)
        (fun _ _ _ _ _ => pe_bm PySem.F.plainAttrs_list PySem.F.slot_list_pop PySem.F.type_list_pop mt_popAt (pv 2) (pa_cons (pe_call GT hr (by rfl) mT kT bT .nil pass0 (pa_cons (pv 0) (pa_cons (pe_callB call_len_seq (by rfl) T.len PySem.boot_len (pa_cons (pv 2) pa_nil)) pa_nil))) pa_nil)))))), ?_⟩
    refine ⟨⟨_, rfl⟩, _, _, rfl, rfl, by decide +kernel, by decide +kernel, fun l1 n1 => ?_⟩
    refine ⟨_, rfl, ⟨_, rfl⟩, _, _, rfl, rfl, by decide +kernel, by decide +kernel, fun l2 n2 => ⟨l1, l2, _, _, rfl, rfl, same_upd n2 _ _ upd_same, upd_same, ?_, fun l3 n3 => ?_⟩⟩
    · decide +kernel
    have e3 : upd (upd (upd H l1 (.lst (pool1.map V.str))) l2 (.lst (pool2.map V.str))) l3 (.lst (pool1.map V.str ++ pool2.map V.str)) l3 = some (.lst ((pool1 ++ pool2).map V.str)) := by rw [upd_same, List.map_append]
    have s3 : Same H (upd (upd (upd H l1 (.lst (pool1.map V.str))) l2 (.lst (pool2.map V.str))) l3 (.lst (pool1.map V.str ++ pool2.map V.str))) := ((same_upd n1).trans (same_upd n2)).trans (same_upd n3)
    have B3 := hB.same s3
    have f3 : H l3 = none := (same_upd n1).free ((same_upd n2).free n3)
    refine ⟨_, rfl, (k : Int), rfl, by omega, by omega, fun D nD => ?_⟩
    rw [Int.toNat_natCast]
    have Db := nb_of B3 nD
    have Db' : D ∉ [b] := fun z => Db (List.mem_singleton.mp z)
    have lb := nb_of hB f3
    have lb' : l3 ∉ [b] := fun z => lb (List.mem_singleton.mp z)
    have lD : l3 ≠ D := ne_of_none e3 nD
    have fD : H D = none := s3.free nD
    have i0 : ∃ pool drawn : List Str, upd (upd (upd (upd H l1 (.lst (pool1.map V.str))) l2 (.lst (pool2.map V.str))) l3 (.lst (pool1.map V.str ++ pool2.map V.str))) D (.lst []) l3 = some (.lst (pool.map V.str)) ∧ upd (upd (upd (upd H l1 (.lst (pool1.map V.str))) l2 (.lst (pool2.map V.str))) l3 (.lst (pool1.map V.str ++ pool2.map V.str))) D (.lst []) D = some (.lst (drawn.map V.str)) ∧ drawn.length = 0 ∧ pool.length + 0 = 40 ∧ (drawn ++ pool).Nodup ∧ ∀ z ∈ drawn ++ pool, nmOk z = true :=
      ⟨pool1 ++ pool2, [], same_upd nD _ _ e3, upd_same, rfl, pool_len, pool_nd, pool_ok⟩
    refine lc_range (lo := 0) (n := k) (fun j H' => Kp [b] H H' ∧ BoxAt H' b (c + j) ∧ ∃ pool drawn : List Str, H' l3 = some (.lst (pool.map V.str)) ∧ H' D = some (.lst (drawn.map V.str)) ∧ drawn.length = j ∧ pool.length + j = 40 ∧ (drawn ++ pool).Nodup ∧ ∀ z ∈ drawn ++ pool, nmOk z = true)
      ⟨Same.kp _ (s3.trans (same_upd nD)), (B3.same (same_upd nD)).le (by omega), i0⟩ (fun j H4 hj p => ?_) (fun H4 p => ?_)
    · obtain ⟨p1, p2, pool, drawn, p3, p4, p5, p6, p7, p8⟩ := p
      refine ⟨rfl, ?_⟩
      refine ⟨_, rfl, .inl ⟨rfl, _, SqL.of p3⟩, _, rfl, _, rfl, l3, _, rfl, .inl (SqL.of p3), b, _, _, rfl, p2, ?_, ?_, by omega, fun r H5 r0 r1 k5 B5 => ?_⟩
      · rw [List.length_map]
        omega
      · rw [List.length_map]
        omega
      rw [List.length_map] at r1
      obtain ⟨m, rfl⟩ : ∃ m : Nat, r = (m : Int) := ⟨r.toNat, by omega⟩
      have hm : m < pool.length := by omega
      have g : pool[m]? = some pool[m] := List.getElem?_eq_getElem hm
      have e5 := k5 _ _ lb' p3
      have d5 := k5 _ _ Db' p4
      refine ⟨l3, _, (m : Int), m, .str pool[m], rfl, rfl, e5, by omega, by omega, ?_, by rw [List.getElem?_map, g]; rfl, _, (by rw [upd_ne (Ne.symm lD)]; exact d5), ?_, ?_, ?_, pool.eraseIdx m, drawn ++ [pool[m]], ?_, ?_, ?_, ?_, nodup_pop g p7, fun z hz => ?_⟩
      · rw [List.length_map]
        exact seqIndex_of (by omega) (by omega)
      · rw [List.length_map, p5]
        exact small1000 (by omega)
      · exact kp_put (kp_put (p1.trans k5) f3) fD
      · obtain ⟨xs, h1, h2⟩ := B5.le (c' := c + ((j + 1 : Nat) : Int)) (by omega)
        exact ⟨xs, by rw [upd_ne Db.symm, upd_ne lb.symm]; exact h1, h2⟩
      · rw [upd_ne lD, upd_same, erase_map]
      · rw [upd_same, List.map_append]
        rfl
      · rw [List.length_append, p5]
        rfl
      · rw [List.length_eraseIdx, if_pos hm]
        omega
      · refine p8 z ?_
        rw [List.append_assoc] at hz
        rcases List.mem_append.mp hz with hz | hz
        · exact List.mem_append_left _ hz
        · exact List.mem_append_right _ ((perm_pop pool m _ g).mem_iff.mp hz)
    · obtain ⟨p1, p2, pool, drawn, p3, p4, p5, p6, p7, p8⟩ := p
      exact q D drawn H4 p5 (List.nodup_append.mp p7).1 (fun z hz => p8 z (List.mem_append_left _ hz)) p1 (p2.le (by omega)) fD p4
end
end My

namespace My
open PySem PySem.Spec PyProof.Rows L2 GX GxR
abbrev sSite : Stmt := topS 24
theorem scSite : FnScope ["_law_box_here", "_law_want_here", "_law_way", "_law_which", "_law_many_here", "_law_yards", "_law_site_here", "_law_house", "_law_yard"] ["_law_box_here", "_law_want_here"] (defScope sSite) := ⟨rfl, rfl, rfl, by decide +kernel, rfl, by decide +kernel, by decide +kernel⟩
/-- a house of a site -/
structure House where
  name : Str
  yard : Str
  left : List Int
def HouseAt (H : Hp) (v : V) (r : House) : Prop := ∃ t l : Addr, v = .ref t ∧ H t = some (.tup [.str r.name, .str r.yard, .ref l]) ∧ H l = some (.tup (r.left.map V.int))
theorem HouseAt.same {H H' : Hp} {v : V} {r : House} (s : Same H H') (h : HouseAt H v r) : HouseAt H' v r := by
  obtain ⟨t, l, e, h1, h2⟩ := h
  exact ⟨t, l, e, s _ _ h1, s _ _ h2⟩
theorem HouseAt.kp {H H' : Hp} {v : V} {r : House} {b : Addr} {c : Int} (B : BoxAt H b c) (s : Kp [b] H H') (h : HouseAt H v r) : HouseAt H' v r := by
  obtain ⟨xs, hb, _⟩ := B
  have ne : ∀ {x : Addr} {ys : List V}, H x = some (.tup ys) → x ∉ [b] := fun {x ys} e z => by
    rw [List.mem_singleton.mp z, hb] at e
    cases e
  obtain ⟨t, l, e, h1, h2⟩ := h
  exact ⟨t, l, e, s _ _ (ne h1) h1, s _ _ (ne h2) h2⟩
theorem HouseAt.put {H : Hp} {v : V} {r : House} {p : Addr} {xs ys : List V} (e : H p = some (.lst xs)) (h : HouseAt H v r) : HouseAt (upd H p (.lst ys)) v r := by
  obtain ⟨t, l, z, h1, h2⟩ := h
  have ne : ∀ {x : Addr} {ys : List V}, H x = some (.tup ys) → x ≠ p := fun {x ys} e' z => by
    rw [z, e] at e'
    cases e'
  exact ⟨t, l, z, by rw [upd_ne (ne h1)]; exact h1, by rw [upd_ne (ne h2)]; exact h2⟩
inductive Houses (H : Hp) : List V → List House → Prop
  | nil : Houses H [] []
  | snoc {vs : List V} {rs : List House} {v : V} {r : House} : Houses H vs rs → HouseAt H v r → Houses H (vs ++ [v]) (rs ++ [r])
theorem Houses.imp {H H' : Hp} (k : ∀ v r, HouseAt H v r → HouseAt H' v r) : ∀ {vs : List V} {rs : List House}, Houses H vs rs → Houses H' vs rs
  | _, _, .nil => .nil
  | _, _, .snoc h x => .snoc (h.imp k) (k _ _ x)
theorem Houses.len {H : Hp} : ∀ {vs : List V} {rs : List House}, Houses H vs rs → vs.length = rs.length
  | _, _, .nil => rfl
  | _, _, .snoc h _ => by rw [List.length_append, List.length_append, h.len]; rfl
/-- a site at p, amounts of n wares -/
def SiteAt (n : Nat) (H : Hp) (p : Addr) (rs : List House) : Prop := ∃ vs, H p = some (.lst vs) ∧ Houses H vs rs ∧ (rs.map (·.name)).Nodup ∧ rs.length ≤ 40 ∧ ∀ r ∈ rs, Amt r.left ∧ r.left.length = n ∧ PySem.PyData.strOk r.name = true ∧ PySem.PyData.strOk r.yard = true
def spSite : Sp := fun vs H Q _ => ∃ (b pw : Addr) (c : Int) (ns : List Int), vs = [.ref b, .ref pw] ∧ BoxAt H b c ∧ c ≤ 1000000 ∧ H pw = some (.tup (ns.map V.int)) ∧ Amt ns ∧ ns.length ≤ 8 ∧
  ∀ p rs H', SiteAt ns.length H' p rs → Kp [b] H H' → BoxAt H' b (c + 3000) → H p = none → (∀ r ∈ rs, r.name ≠ Str.ofString "nosuch") → Q (.ref p) H'
section
variable {P : Program} {w : World} {K : PySem.W.Frag} {mg : Str → Option Value} {base : Heap}
theorem ok_site {f fT fD fL : Addr} {fd fdT fdD fdL : FuncData} {k : Nat} (F : Fun K "_law_site" "_law_site" sSite f fd) (T : Txt mg)
    (GT : FnOk P w K mg base CX0 k fT fdT ["_law_box_here", "_law_many_here"] spTakeW) (mT : mg "_law_take" = some (.ref fT)) (kT : PySem.W.keepIn K (.ref fT) = true) (bT : Binds K fdT ["_law_box_here", "_law_many_here"] [])
    (GD : FnOk P w K mg base CX0 k fD fdD ["_law_box_here", "_law_many_here"] spDrawn) (mD : mg "_law_drawn_names" = some (.ref fD)) (kD : PySem.W.keepIn K (.ref fD) = true) (bD : Binds K fdD ["_law_box_here", "_law_many_here"] [])
    (GL : FnOk P w K mg base CX0 k fL fdL ["_law_box_here", "_law_want_here"] (spLeft K)) (mL : mg "_law_left" = some (.ref fL)) (kL : PySem.W.keepIn K (.ref fL) = true) (bL : Binds K fdL ["_law_box_here", "_law_want_here"] [])
    : FnOk P w K mg base CX0 (k + 1) f fd ["_law_box_here", "_law_want_here"] spSite := by
  refine F.ok scSite (fun vs H Q E h => ?_) (fun cdv A outer s H vs Q E hr h => ?_)
  · obtain ⟨b, pw, c, ns, rfl, _⟩ := h
    rfl
  · obtain ⟨b, pw, c, ns, rfl, hB, hc, hW, hA, h8, q⟩ := h
    refine ⟨_, pss_cons (ps_set (i := 2) scSite.nd rfl (.inl rfl) (pe_call GT hr (by rfl) mT kT bT .nil pass0 (pa_cons (pv 0) (pa_cons pe_int pa_nil))))
      (pss_cons (ps_set (i := 3) scSite.nd rfl (.inl rfl) (pe_op op_add (pe_op op_add (pe_callTy call_int1 (by rfl) T.int bt_int (pa_cons (pe_cmpR op_gt (pv 2) pe_int (nomark _)) pa_nil)) (pe_callTy call_int1 (by rfl) T.int bt_int (pa_cons (pe_cmpR op_gt (pv 2) pe_int (nomark _)) pa_nil))) (pe_callTy call_int1 (by rfl) T.int bt_int (pa_cons (pe_cmpR op_gt (pv 2) pe_int (nomark _)) pa_nil))))
      (pss_cons (ps_set (i := 4) scSite.nd rfl (.inl rfl) (pe_ix ix_list (pe_lst (pa_cons (pe_call GT hr (by rfl) mT kT bT .nil pass0 (pa_cons (pv 0) (pa_cons pe_int pa_nil))) (pa_cons (pe_op op_add pe_int (pe_call GT hr (by rfl) mT kT bT .nil pass0 (pa_cons (pv 0) (pa_cons pe_int pa_nil)))) (pa_cons pe_int (pa_cons pe_int pa_nil))))) (pv 3) (fun _ _ => rfl)))
      (pss_cons (ps_set (i := 5) scSite.nd rfl (.inl rfl) (pe_call GD hr (by rfl) mD kD bD .nil pass0 (pa_cons (pv 0) (pa_cons (pe_ix ix_list (pe_lst (pa_cons pe_int (pa_cons pe_int (pa_cons pe_int (pa_cons pe_int pa_nil))))) (pe_call GT hr (by rfl) mT kT bT .nil pass0 (pa_cons (pv 0) (pa_cons pe_int pa_nil))) (fun _ _ => rfl)) pa_nil))))
      (pss_cons (ps_set (i := 6) scSite.nd rfl (.inl rfl) (pe_lst pa_nil))
      (pss_cons (ps_for PassesOwn.never rfl (pi_list (pe_call GD hr (by rfl) mD kD bD .nil pass0 (pa_cons (pv 0) (pa_cons (pv 4) pa_nil)))) (pg_name (i := 7) scSite.nd rfl (.inl rfl))
        (pss_cons (ps_set (i := 8) scSite.nd rfl (.inl rfl) (pe_ix ix_list (pv 5) (pe_call GT hr (by rfl) mT kT bT .nil pass0 (pa_cons (pv 0) (pa_cons (pe_callB call_len_seq (by rfl) T.len PySem.boot_len (pa_cons (pv 5) pa_nil)) pa_nil))) (fun _ _ => rfl)))
        (pss_one (ps_expr (pe_bm PySem.F.plainAttrs_list PySem.F.slot_list_append PySem.F.type_list_append mt_append (pv 6) (pa_cons (pe_tup (pa_cons (pv 7) (pa_cons (pv 8) (pa_cons (pe_call GL hr (by rfl) mL kL bL .nil pass0 (pa_cons (pv 0) (pa_cons (pv 1) pa_nil))) pa_nil)))) pa_nil))))))
      (pss_one (ps_ret (pv 6)))))))), ?_⟩
    have wb : pw ∉ [b] := fun z => by
      obtain ⟨xs, h1, _⟩ := hB
      rw [List.mem_singleton.mp z, h1] at hW
      cases hW
    refine ⟨_, rfl, b, _, 16, rfl, hB, by decide, by decide, by omega, fun way H1 a1 b1 k1 B1 => ?_⟩
    refine ⟨_, rfl, way, 5, rfl, rfl, .inr ⟨_, rfl, ?_⟩⟩
    refine ⟨_, rfl, way, 13, rfl, rfl, .inr ⟨_, rfl, _, _, rfl, rfl, ?_⟩⟩
    refine ⟨_, rfl, way, 14, rfl, rfl, .inr ⟨_, rfl, _, _, rfl, rfl, ?_⟩⟩
    obtain ⟨wh, hwh, w0, w3⟩ : ∃ wh : Int, (if decide (5 < way) = true then (1 : Int) else 0) + (if decide (13 < way) = true then (1 : Int) else 0) + (if decide (14 < way) = true then (1 : Int) else 0) = wh ∧ 0 ≤ wh ∧ wh ≤ 3 := ⟨_, rfl, by split <;> split <;> split <;> omega, by split <;> split <;> split <;> omega⟩
    refine ⟨_, rfl, b, _, 4, rfl, B1, by decide, by decide, by omega, fun r1 H2 a2 b2 k2 B2 => ?_⟩
    refine ⟨_, rfl, b, _, 6, rfl, B2, by decide, by decide, by omega, fun r2 H3 a3 b3 k3 B3 => ⟨2, r2, rfl, rfl, by show 4 ≤ sizeLine; decide, fun l1 n1 => ?_⟩⟩
    have kk := (k1.trans k2).trans k3
    have hv : ∃ m : Nat, m ≤ 40 ∧ atI [V.int r1, .int (2 + r2), .int 12, .int 40] wh = some (.int (m : Int)) := by
      obtain ⟨m, rfl⟩ : ∃ m : Nat, wh = (m : Int) := ⟨wh.toNat, by omega⟩
      rcases m with _ | _ | _ | _ | m
      · exact ⟨r1.toNat, by omega, by rw [Int.toNat_of_nonneg a2]; rfl⟩
      · exact ⟨(2 + r2).toNat, by omega, by rw [Int.toNat_of_nonneg (by omega)]; rfl⟩
      · exact ⟨12, by decide, rfl⟩
      · exact ⟨40, by decide, rfl⟩
      · exact absurd w3 (by omega)
    obtain ⟨mn, mn40, hmn⟩ := hv
    refine ⟨_, rfl, l1, _, wh, .int (mn : Int), rfl, congrArg V.int hwh, SqL.of upd_same, hmn, ?_⟩
    have k4 := kp_new (o := .lst [V.int r1, .int (2 + r2), .int 12, .int 40]) kk n1
    have B4 := B3.same (same_upd (o := .lst [V.int r1, .int (2 + r2), .int 12, .int 40]) n1)
    generalize upd H3 l1 (.lst [V.int r1, .int (2 + r2), .int 12, .int 40]) = H4 at k4 B4 ⊢
    -- yards
    refine ⟨_, rfl, by show 4 ≤ sizeLine; decide, fun l2 n2 => ⟨_, rfl, b, _, 4, rfl, B4.same (same_upd n2), by decide, by decide, by omega, fun r3 H5 a5 b5 k5 B5 => ?_⟩⟩
    have l2b := nb_of B4 n2
    have e5 := k5 _ _ (fun z => l2b (List.mem_singleton.mp z)) upd_same
    have hy : ∃ m : Nat, 1 ≤ m ∧ m ≤ 8 ∧ atI [V.int 1, .int 2, .int 3, .int 8] r3 = some (.int (m : Int)) := by
      obtain ⟨m, rfl⟩ : ∃ m : Nat, r3 = (m : Int) := ⟨r3.toNat, by omega⟩
      rcases m with _ | _ | _ | _ | m
      · exact ⟨1, by decide, by decide, rfl⟩
      · exact ⟨2, by decide, by decide, rfl⟩
      · exact ⟨3, by decide, by decide, rfl⟩
      · exact ⟨8, by decide, by decide, rfl⟩
      · exact absurd b5 (by omega)
    obtain ⟨my, my1, my8, hmy⟩ := hy
    have k6 := (kp_new (o := .lst [V.int 1, .int 2, .int 3, .int 8]) k4 n2).trans k5
    refine ⟨l2, _, r3, .int (my : Int), rfl, rfl, SqL.of e5, hmy, b, _, my, rfl, B5, by omega, by omega, fun py ys H6 ly _ oky' k7 B6 ny e6 => ?_⟩
    have oky : ∀ z ∈ ys, PySem.PyData.strOk z = true := fun z hz => nm_ok (oky' z hz)
    have k8 := k6.trans k7
    have yb : py ∉ [b] := fun z => nb_of B5 ny (List.mem_singleton.mp z)
    refine ⟨by show 0 ≤ sizeLine; decide, fun ls nls => ?_⟩
    have lsb := nb_of B6 nls
    have lsb' : ls ∉ [b] := fun z => lsb (List.mem_singleton.mp z)
    have fls : H ls = none := kp_free k8 lsb nls
    -- houses
    refine ⟨_, rfl, _, rfl, b, _, mn, rfl, B6.same (same_upd nls), by omega, mn40, fun ph hs H7 lh nh okh' k9 B7 np e7 => ⟨ph, rfl, ⟨_, SqL.of e7⟩, ?_⟩⟩
    have okh : ∀ z ∈ hs, PySem.PyData.strOk z = true := fun z hz => nm_ok (okh' z hz)
    have hb' : ph ∉ [b] := fun z => nb_of (B6.same (same_upd nls)) np (List.mem_singleton.mp z)
    have e8 := k9 _ _ yb (same_upd nls _ _ e6)
    have e9 := k9 _ _ lsb' upd_same
    have ka := (kp_new (o := .lst []) k8 nls).trans k9
    have hls : ph ≠ ls := fun z => by
      have n' := np
      rw [z, upd_same] at n'
      cases n'
    have hyls : py ≠ ls := fun z => by
      rw [z, nls] at e6
      cases e6
    refine for_list (xs := hs.map V.str) (fun i σ H' => ∃ y7 y8, σ = [some (.ref b), some (.ref pw), some (.int way), some (.int wh), some (.int (mn : Int)), some (.ref py), some (.ref ls), y7, y8] ∧ Kp [b] H H' ∧ BoxAt H' b (c + 100 + 41 * i) ∧ H' py = some (.lst (ys.map V.str)) ∧ H' ph = some (.lst (hs.map V.str)) ∧
        ∃ vs rs, H' ls = some (.lst vs) ∧ Houses H' vs rs ∧ rs.map (·.name) = hs.take i ∧ ∀ r ∈ rs, Amt r.left ∧ r.left.length = ns.length ∧ PySem.PyData.strOk r.name = true ∧ PySem.PyData.strOk r.yard = true)
      ⟨none, none, ?_, ka, B7.le (by omega), e8, e7, [], [], e9, .nil, rfl, fun _ h => (nomatch h)⟩ (fun i σ H' _ p => ?_) (fun i x σ H8 hx p => ?_) (fun σ H8 p => ?_)
    · rw [← hwh]
      rfl
    · obtain ⟨_, _, _, _, _, _, p5, _⟩ := p
      exact SqL.of p5
    · obtain ⟨y7, y8, rfl, p1, p2, p3, p4, vs, rs, p5, p6, p7, p8⟩ := p
      obtain ⟨hn, hho, rfl⟩ : ∃ hn, hs[i]? = some hn ∧ x = .str hn := by
        rw [List.getElem?_map] at hx
        cases h : hs[i]? with
        | none => rw [h] at hx; cases hx
        | some hn =>
          rw [h] at hx
          exact ⟨hn, rfl, (Option.some.inj hx).symm⟩
      have hi : i < hs.length := (List.getElem?_eq_some_iff.mp hho).1
      have lrs : rs.length = i := by
        have := congrArg List.length p7
        rw [List.length_map, List.length_take] at this
        omega
      refine ⟨_, rfl, _, rfl, _, rfl, py, _, rfl, .inl (SqL.of p3), b, _, _, rfl, p2, ?_, ?_, by omega, fun r H9 r0 r1' k9' B9 => ?_⟩
      · rw [List.length_map]
        omega
      · rw [List.length_map]
        omega
      rw [List.length_map] at r1'
      obtain ⟨m, rfl⟩ : ∃ m : Nat, r = (m : Int) := ⟨r.toNat, by omega⟩
      have hm : m < ys.length := by omega
      have p3' := k9' _ _ yb p3
      have p4' := k9' _ _ hb' p4
      have p5' := k9' _ _ lsb' p5
      refine ⟨py, _, (m : Int), .str ys[m], rfl, rfl, SqL.of p3', atI_nat (by rw [List.getElem?_map, List.getElem?_eq_getElem hm]; rfl), ?_⟩
      refine ⟨_, rfl, .inl ⟨rfl, _, SqL.of p5'⟩, _, rfl, _, rfl, _, rfl, _, rfl, b, pw, _, ns, rfl, B9, by omega, (p1.trans k9') _ _ wb hW, hA, h8, fun pl ll Ha al len ka' Ba npl ea => ⟨by show 3 ≤ sizeLine; decide, fun t nt => ?_⟩⟩
      have pla := same_upd (o := .tup [.str hn, .str ys[m], .ref pl]) nt _ _ ea
      have p5a := same_upd (o := .tup [.str hn, .str ys[m], .ref pl]) nt _ _ (ka' _ _ lsb' p5')
      have kx : Kp [b] H8 (upd Ha t (.tup [.str hn, .str ys[m], .ref pl])) := kp_new (k9'.trans ka') nt
      have hs1 : Houses (upd Ha t (.tup [.str hn, .str ys[m], .ref pl])) vs rs := p6.imp fun v r h => h.kp p2 kx
      have h1 : HouseAt (upd Ha t (.tup [.str hn, .str ys[m], .ref pl])) (.ref t) ⟨hn, ys[m], ll⟩ := ⟨t, pl, rfl, upd_same, pla⟩
      refine ⟨ls, _, _, rfl, rfl, p5a, ?_, ?_⟩
      · rw [p6.len, lrs]
        exact small1000 (by omega)
      refine ⟨_, _, rfl, kp_put (p1.trans kx) fls, ?_, ?_, ?_, vs ++ [.ref t], rs ++ [⟨hn, ys[m], ll⟩], upd_same, (hs1.snoc h1).imp fun v r h => h.put p5a, ?_, fun r hr' => ?_⟩
      · obtain ⟨xs, g1, g2⟩ := (Ba.same (same_upd (o := .tup [.str hn, .str ys[m], .ref pl]) nt)).le (c' := c + 100 + 41 * ((i + 1 : Nat) : Int)) (by omega)
        exact ⟨xs, by rw [upd_ne lsb.symm]; exact g1, g2⟩
      · rw [upd_ne hyls]
        exact kx _ _ yb p3
      · rw [upd_ne hls]
        exact kx _ _ hb' p4
      · rw [List.map_append, p7, List.take_succ, hho]
        rfl
      · rcases List.mem_append.mp hr' with z | z
        · exact p8 r z
        · rw [List.mem_singleton.mp z]
          exact ⟨al, len, okh hn (List.mem_of_getElem? hho), oky _ (List.getElem_mem hm)⟩
    · obtain ⟨y7, y8, rfl, p1, p2, p3, p4, vs, rs, p5, p6, p7, p8⟩ := p
      rw [List.length_map] at p2 p7
      rw [List.take_of_length_le (Nat.le_refl _)] at p7
      have lrs : rs.length = hs.length := by
        have := congrArg List.length p7
        rwa [List.length_map] at this
      refine ⟨_, rfl, q ls rs _ ⟨vs, p5, p6, by rw [p7]; exact nh, by omega, p8⟩ p1 (p2.le (by omega)) fls fun r hr' => nm_ne (okh' _ (by rw [← p7]; exact List.mem_map.mpr ⟨r, hr', rfl⟩))⟩
end
end My

set_option maxHeartbeats 2000000
/-! sets of texts: made, filled, walked in sorted order; set comprehensions of texts. -/
namespace SX
open PySem PySem.Spec PyProof.Rows L2 PpSet
def txtOf (e : Int × Value) : Str := match e.2 with | .str z _ => z | _ => Str.ofString ""
/-- an entry of the text z -/
def IsT (P : Program) (w : World) (e : Int × Value) : Prop := ∃ z t, e.2 = Value.str z t ∧ e.1 = (strKind P w).hash z
/-- the set of the texts zs at a; its table rises and can be walked -/
def TSet (P : Program) (w : World) (h : Heap) (a : Addr) (zs : List Str) : Prop :=
  ∃ o es ep t, h.get? a = some o ∧ o.ExactSet ∧ o.data = .set es ep t ∧ (∀ e ∈ es.toList, IsT P w e) ∧ (es.toList.map txtOf).Perm zs ∧ zs.Nodup ∧
    es.size < scanBound ∧ t.fits es.size = true ∧ Ris t.place.toList ∧ (w.params.followText "set-order" = true ∨ t.led = true)
section
variable {P : Program} {w : World} {h h' : Heap} {a : Addr} {zs : List Str}
theorem TSet.at (R : TSet P w h a zs) (k : ∀ o, h.get? a = some o → h'.get? a = some o) : TSet P w h' a zs := by
  obtain ⟨o, es, ep, t, ho, r⟩ := R
  exact ⟨o, es, ep, t, k o ho, r⟩
theorem TSet.size (R : TSet P w h a zs) : ∃ o es ep t, h.get? a = some o ∧ o.data = .set es ep t ∧ es.size = zs.length := by
  obtain ⟨o, es, ep, t, ho, _, hd, _, pm, _⟩ := R
  exact ⟨o, es, ep, t, ho, hd, by rw [← Array.length_toList, ← List.length_map (f := txtOf), pm.length_eq]⟩
theorem isT_is {e : Int × Value} (g : IsT P w e) (z : Str) : (strKind P w).is z e.2 = true ↔ txtOf e = z := by
  obtain ⟨y, t, h1, _⟩ := g
  unfold txtOf
  rw [h1]
  simp [PySem.strKind, Value.isStrOf]
theorem isT_elems {l : List (Int × Value)} (g : ∀ e ∈ l, IsT P w e) : ElemsOf (strKind P w) l := fun e he => by
  obtain ⟨z, t, h1, h2⟩ := g e he
  exact ⟨⟨z, by rw [h1]; exact strKind_is P w z t, h2⟩, by rw [h1]; rfl⟩
theorem TSet.setOf (R : TSet P w h a zs) : h.SetOf (strKind P w) a (fun z => decide (z ∈ zs)) zs.length := by
  obtain ⟨o, es, ep, t, ho, hx, hd, g, pm, nd, hb, hf, _⟩ := R
  refine ⟨o, es, ep, t, ho, hx, hd, isT_elems g, fun z => ?_, hb, hf, by rw [← Array.length_toList, ← List.length_map (f := txtOf), pm.length_eq]⟩
  rw [decide_eq_true_eq, ← pm.mem_iff, List.mem_map]
  exact ⟨fun ⟨e, he, q⟩ => ⟨e, he, (isT_is (g e he) z).2 q⟩, fun ⟨e, he, q⟩ => ⟨e, he, (isT_is (g e he) z).1 q⟩⟩
end
section
variable {P : Program} {w : World} {A : Around} {E : Value → Shared → Prop} {s : Shared} {a : Addr} {zs : List Str}
/-- what is stored, and stored again where the table grows -/
theorem stored {g : Bool → Sem Unit} (hg : ∀ (b : Bool) (s₁ : Shared) (Q' : Unit → Shared → Prop), Q' () s₁ → wpAny (model P w) A (g b) Q' E s₁) {o : Obj} {es es1 : Array (Int × Value)} {ep : Nat} {t t2 : SetTable}
    (ho : s.heap.get? a = some o) (hex : o.ExactSet) (hd : o.data = .set es ep t) (g1 : ∀ e ∈ es1.toList, IsT P w e) (p1 : (es1.toList.map txtOf).Perm zs) (nd : zs.Nodup) (hb : es1.size < scanBound) (hf : t2.fits es1.size = true)
    (hr : Ris t2.place.toList) (hl : w.params.followText "set-order" = true ∨ t2.led = true) {d : Bool} {R : Option Bool → Shared → Prop} (hR : ∀ h', Heap.SameBut a s.heap h' → TSet P w h' a zs → R (some true) { s with heap := h' }) :
    wpAny (model P w) A (do
        storeSet a es1 t2
        if (!d && t2.tooFull) = true then do
            g (relayAll t2 es1 (SetTable.grown es1.size)).2.2
            storeSet a (relayAll t2 es1 (SetTable.grown es1.size)).1 (relayAll t2 es1 (SetTable.grown es1.size)).2.1
            pure (some true)
          else pure (some true)) R E s := by
  refine wpAny_bind (wpAny_storeSet_of ho hd ?_ (fits_of_scanBound hb))
  have ho1 := storeB_at (es' := es1) (t' := t2) ho hd
  have sb1 := Heap.SameBut.update s.heap a (Obj.putSet es1 t2)
  split
  · have pm := relayAll_perm t2 es1 (SetTable.grown es1.size)
    have q1 := relayAll_fits t2 es1 (SetTable.grown es1.size)
    have q2 := relayAll_ris t2 es1 (SetTable.grown es1.size)
    have q3 := relayAll_led t2 es1 (SetTable.grown es1.size)
    generalize relayAll t2 es1 (SetTable.grown es1.size) = Z at pm q1 q2 q3 ⊢
    obtain ⟨es2, t3, gave⟩ := Z
    dsimp only at pm q1 q2 q3 ⊢
    have hb2 : es2.size < scanBound := by rw [← Array.length_toList, pm.length_eq, Array.length_toList]; exact hb
    refine wpAny_bind (hg _ _ _ (wpAny_bind (wpAny_storeSet_of ho1 rfl ?_ (fits_of_scanBound hb2))))
    exact wpAny_pure (hR _ (sb1.trans (Heap.SameBut.update _ a _)) ⟨_, es2, _, t3, storeB_at (es' := es2) (t' := t3) ho1 rfl, hex, rfl, fun e he => g1 e (pm.mem_iff.mp he), (pm.map txtOf).trans p1, nd, hb2, q1, q2, hl.imp id fun z => by rw [q3]; exact z⟩)
  · exact wpAny_pure (hR _ sb1 ⟨_, es1, _, t2, ho1, hex, rfl, g1, p1, nd, hb, hf, hr, hl⟩)
/-- the texts with z -/
def more (zs : List Str) (z : Str) : List Str := if z ∈ zs then zs else z :: zs
theorem add_hashed {z : Str} {tk : Tok} {Q : Bool → Shared → Prop} (R : TSet P w s.heap a zs) (room : zs.length + 1 < scanBound) (hQ : ∀ b h', Heap.SameBut a s.heap h' → TSet P w h' a (more zs z) → Q b { s with heap := h' }) :
    wpAny (model P w) A (setAddHashed a (.str z tk) ((strKind P w).hash z)) Q E s := by
  have R0 := R
  obtain ⟨o, es, ep, t, ho, hex, hd, g, pm, nd, hb, hf, hr, hl⟩ := R
  have hkey : (strKind P w).is z (.str z tk) = true := strKind_is P w z tk
  have hsc : (Value.str z tk).scannable = true := rfl
  have hel : ElemsOf (strKind P w) es.toList := isT_elems g
  have hlen : es.size = zs.length := by rw [← Array.length_toList, ← List.length_map (f := txtOf), pm.length_eq]
  unfold setAddHashed setAddHashedIn
  refine wpAny_holding (wpAny_bind (wpAny_setState_of ho hd hf ?_))
  dsimp only
  rw [byScan_of hsc hb hel]
  simp only [↓reduceIte]
  unfold setAddByScan
  refine wpAny_bind (wpAny_bind (wpAny_rule (wpAny_bind (wpAny_setScan_of hkey ho hd hf hel ?_))))
  cases hfi : List.findIdx? (fun e => (strKind P w).is z e.2) es.toList with
  | some j =>
    dsimp only
    obtain ⟨hj, pj, _⟩ := List.findIdx?_eq_some_iff_getElem.mp hfi
    have hz : z ∈ zs := pm.mem_iff.mp (List.mem_map.mpr ⟨es.toList[j], List.getElem_mem hj, (isT_is (g _ (List.getElem_mem hj)) z).1 pj⟩)
    refine wpAny_pure (wpAny_pure (hQ _ s.heap (Heap.SameBut.refl a s.heap) ?_))
    unfold more
    rw [if_pos hz]
    exact R0
  | none =>
    dsimp only
    have hz : z ∉ zs := fun q => by
      obtain ⟨e, he, q⟩ := List.mem_map.mp (pm.mem_iff.mpr q)
      have c := List.findIdx?_eq_none_iff.mp hfi e he
      rw [(isT_is (g e he) z).2 q] at c
      cases c
    have hgw : ∀ (b : Bool) {s₁ : Shared} {Q' : Unit → Shared → Prop}, Q' () s₁ → wpAny (model P w) A (match b with | true => rule "set.scan.the-table-gave-way" | false => pure ()) Q' E s₁ :=
      fun b s₁ Q' q => by cases b <;> first | exact wpAny_pure q | exact wpAny_rule q
    have pe := layNew_perm t es ((strKind P w).hash z) (.str z tk)
    have f1 := layNew_fits t es ((strKind P w).hash z) (.str z tk)
    have r1 := layNew_ris t es ((strKind P w).hash z) (.str z tk) hr
    have l1 := layNew_led t es ((strKind P w).hash z) (.str z tk)
    generalize layNew t es ((strKind P w).hash z) (.str z tk) = Z at pe f1 r1 l1 ⊢
    obtain ⟨es1, t1, wasDummy, gave⟩ := Z
    dsimp only at pe f1 r1 l1 ⊢
    rw [Array.toList_push] at pe
    have pc : es1.toList.Perm (((strKind P w).hash z, Value.str z tk) :: es.toList) := pe.trans (List.perm_append_singleton _ _)
    have p1 : (es1.toList.map txtOf).Perm (z :: zs) := (pc.map txtOf).trans (pm.cons z)
    have g1 : ∀ e ∈ es1.toList, IsT P w e := fun e he => by
      rcases List.mem_cons.mp (pc.mem_iff.mp he) with q | q
      · rw [q]
        exact ⟨z, tk, rfl, rfl⟩
      · exact g e q
    have nd1 : (z :: zs).Nodup := List.nodup_cons.mpr ⟨hz, nd⟩
    have hb1 : es1.size < scanBound := by
      rw [← Array.length_toList, pc.length_eq, List.length_cons, Array.length_toList, hlen]
      exact room
    have led : w.params.followText "set-order" = true ∨ t1.led = true := hl.imp id fun q => by rw [l1]; exact q
    have fin : ∀ b h', Heap.SameBut a s.heap h' → TSet P w h' a (z :: zs) → Q b { s with heap := h' } := fun b h' sb r => by
      have q := hQ b h' sb
      unfold more at q
      rw [if_neg hz] at q
      exact q r
    refine wpAny_bind (hgw _ ?_)
    split
    · refine wpAny_bind ?_
      rw [hashByValue_scannable 8 hsc]
      refine wpAny_pure ?_
      refine stored ?_ ho hex hd g1 p1 nd1 hb1 ?_ ?_ ?_ ?_
      · intro b s₁ Q' q; cases b <;> first | exact wpAny_pure q | exact wpAny_rule q
      · first | (split <;> first | exact f1 | exact SetTable.fits_plain_off f1) | exact f1
      · first | (split <;> exact r1) | exact r1
      · first | (split <;> exact led) | exact led
      · intro h' sb r; dsimp only; exact wpAny_pure (fin _ h' sb r)
    · refine wpAny_bind (wpAny_pure ?_)
      simp only [↓reduceIte]
      refine stored ?_ ho hex hd g1 p1 nd1 hb1 f1 r1 led ?_
      · intro b s₁ Q' q; cases b <;> first | exact wpAny_pure q | exact wpAny_rule q
      · intro h' sb r; dsimp only; exact wpAny_pure (fin _ h' sb r)
/-- xs.add(z) -/
theorem add_run {z : Str} {tk : Tok} {Q : Value → Shared → Prop} (R : TSet P w s.heap a zs) (room : zs.length + 1 < scanBound) (hQ : ∀ h', Heap.SameBut a s.heap h' → TSet P w h' a (more zs z) → Q .none { s with heap := h', toks := s.toks + 1 }) :
    wpAny (model P w) A (call (.builtin "set.add") [.ref a, .str z tk]) Q E s := by
  refine wpAny_call_entry F.slot_set_add (R.setOf).typeIs F.entry_set_add ?_ (F.args_set_add_2 _ _)
  unfold Builtin.«set.add» Builtin.Frozenset.oneOther
  simp only [List.isEmpty_nil, bind_assoc]
  unfold Builtin.Frozenset.addrOf setAdd
  refine wpAny_bind (wpAny_pure ?_)
  try dsimp only
  refine wpAny_bind (wpAny_pure ?_)
  try dsimp only
  refine wpAny_bind (wpAny_holding (wpAny_bind ((strKind P w).pyHash (strKind_is P w z tk) ?_)))
  refine add_hashed (s := { s with toks := s.toks + 1 }) R room fun b h' sb r => ?_
  show wpAny _ _ (ret Value.none) _ _ _
  exact wpAny_pure ⟨_, rfl, hQ h' sb r⟩
theorem fresh_set {h : Heap} (P : Program) (w : World) : TSet P w (h.push { cls := .type "set", dict := none, data := .set #[] 0 (.fresh 0 0 (!w.params.followText "set-order")) }) h.objs.size [] :=
  ⟨_, #[], 0, _, Heap.get?_push_size _ rfl, ⟨rfl, rfl, rfl⟩, rfl, (fun e he => by simp at he), .refl _, .nil, by decide, by rfl, List.Pairwise.nil, by
    show _ ∨ (!w.params.followText "set-order") = true
    cases w.params.followText "set-order"
    · exact .inr rfl
    · exact .inl rfl⟩
end
/-! ### tracked -/
def SetSO (P : Program) (w : World) (a : Addr) (zs : List Str) : HO := .ext fun h => TSet P w h a zs
theorem setSO_new {w : World} {P : Program} {H : Hp} {h : Heap} {a : Addr} {zs : List Str} (R : TSet P w h a zs) : ObjOk P w H h a (SetSO P w a zs) := by
  have ⟨o, _, _, _, ho, _⟩ := R
  exact ⟨R, ⟨o, ho⟩, fun h1 h2 p k => TSet.at p k⟩
section
variable {X : Cx}
theorem setSO_get {pins : List (Addr × Obj)} {σ : L2.St} {H : Hp} {s : Shared} {a : Addr} {zs : List Str} (I : Inv X pins σ H s) (ha : H a = some (SetSO X.prog X.w a zs)) : TSet X.prog X.w s.heap a zs := (I.hok a _ ha).1
theorem add_ok {pins : List (Addr × Obj)} {σ : L2.St} {H : Hp} {s : Shared} {E : Value → Shared → Prop} {D : Addr} {zs : List Str} {z : Str} {tk : Tok} {Q : Value → Shared → Prop} (I : Inv X pins σ H s) (hD : H D = some (SetSO X.prog X.w D zs)) (room : zs.length + 1 < scanBound)
    (h : ∀ s', Inv X pins σ (upd H D (SetSO X.prog X.w D (more zs z))) s' → Q .none s') : wpAny (model X.prog X.w) X.A (call (.builtin "set.add") [.ref D, .str z tk]) Q E s := by
  refine add_run (setSO_get I hD) room fun h' sb new => ?_
  have he : ∃ u, h'.get? D = some u := by
    have ⟨o, _, _, _, ho, _⟩ := new
    exact ⟨o, ho⟩
  exact h _ (I.write (e := D) (t' := s.toks + 1) (by rw [hD]; trivial) (.inl rfl) (fun b u hb hu => (sb.2 b hb).trans hu) he (setSO_new new))
end
end SX

namespace My
open PySem PySem.W PySem.Spec PyProof.Rows L2
section
variable {X : Cx} {pins : List (Addr × Obj)} {σ : L2.St} {H : Hp} {s : Shared}
/-- an own def that a built-in's built-in calls -/
theorem run_in2 {Q : VK} {us : List Value} {vs : List V} {k : Nat} {f : Addr} {fd : FuncData} {ps : List Str} {sp : Sp} (F : FnOk X.prog X.w X.K X.mg X.base CX0 k f fd ps sp) (hr : Room (k + 2) X.A) (hb : L2.Binds X.K fd ps []) (I : Inv X pins σ H s) (r : Vals vs us) (h : sp vs H Q E0) :
    wpAny (model X.prog X.w) X.A.in1.in1 (call (.ref f) us) (EP X pins σ Q) (fun _ _ => False) s := by
  have hl : (us ++ []).length = ps.length := by
    rw [List.append_nil, ← r.length]
    exact F.len _ _ _ _ h
  have hbt := hb s us I.kIn hl
  rw [List.append_nil] at hbt
  refine wpAny_call (codeAny_mono (F.run X.A.in1.in1 X.stack s H ⟨us, []⟩ us vs Q E0 hr.in1.in1 I.env0.in1.in1 hbt r h) fun z s' hq => ?_)
  cases z with
  | error e => exact hq
  | ok fl =>
    cases fl with
    | ret u => exact I.after hq
    | next => exact hq
    | brk => exact hq
    | cont => exact hq
/-- a place that is ours alone -/
structure Ours (X : Cx) (pins : List (Addr × Obj)) (p : Addr) : Prop where
  late : X.s_0.heap.objs.size ≤ p
  loc : p ≠ X.env.locals
  fs : p ∉ X.fs
  cell : ∀ x c, X.env.cells.lookup x = some c → c ≠ p
  pin : ∀ q ∈ X.pn ++ pins, q.1 ≠ p
theorem ours_new (I : Inv X pins σ H s) {p : Addr} (h : s.heap.objs.size ≤ p) : Ours X pins p := by
  refine ⟨Nat.le_trans I.sz h, fun z => ?_, I.nofs h, fun x c e z => ?_, fun q hq z => ?_⟩
  · have q := I.lt
    rw [← z] at q
    exact absurd (Nat.lt_of_lt_of_le q h) (Nat.lt_irrefl _)
  · obtain ⟨v, o, ho, _⟩ := I.cell x c e
    have q := Heap.lt_size ho
    rw [z] at q
    exact absurd (Nat.lt_of_lt_of_le q h) (Nat.lt_irrefl _)
  · obtain ⟨e, _⟩ := I.pin q hq
    have q := Heap.lt_size e
    rw [z] at q
    exact absurd (Nat.lt_of_lt_of_le q h) (Nat.lt_irrefl _)
/-- two of our places have turned; the one is now a list that is tracked -/
theorem turned2 {h' : Heap} {t' : Nat} {a c : Addr} {ys : List V} (I : Inv X pins σ H s) (oa : Ours X pins a) (oc : Ours X pins c) (na : H a = none) (nc : H c = none) (hac : a ≠ c)
    (k : ∀ b o, b ≠ a → b ≠ c → s.heap.get? b = some o → h'.get? b = some o) (new : ObjOk X.prog X.w (upd H a (.lst ys)) h' a (.lst ys)) :
    Inv X pins σ (upd H a (.lst ys)) { s with heap := h', toks := t' } := by
  have nt : ∀ b u, H b = some u → b ≠ a := fun b u e z => by
    rw [z, na] at e
    cases e
  have nt2 : ∀ b u, H b = some u → b ≠ c := fun b u e z => by
    rw [z, nc] at e
    cases e
  have off : ∀ {b : Addr}, b ∉ [a, c] → b ≠ a ∧ b ≠ c := fun {b} h => ⟨fun z => h (by simp [z]), fun z => h (by simp [z])⟩
  refine I.step (g' := s.gens) (d' := s.drawn) (ch := [a, c]) (fun b hb => ?_) (fun b o _ _ hc e _ => k b o (off hc).1 (off hc).2 e) (fun b o _ _ hc e _ => ⟨o.slots, k b o (off hc).1 (off hc).2 e⟩) (fun b o hc e n => by rw [upd_ne (off hc).1]; exact n)
    (fun b o hc e => ⟨o, k b o (off hc).1 (off hc).2 e⟩) (fun b xs e => by rw [upd_ne (nt b _ e)]; exact e) (fun b o u e => by rw [upd_ne (nt b _ e)]; exact e) (fun b ps e => ⟨#[], by rw [upd_ne (nt b _ e), e]; simp⟩) (fun m hm => ?_) (fun b u e => ?_) I.bare
  · rcases List.mem_cons.mp hb with z | z
    · rw [z]
      exact ⟨.inr oa.late, oa.loc, oa.cell, oa.pin⟩
    · rw [List.mem_singleton.mp z]
      exact ⟨.inr oc.late, oc.loc, oc.cell, oc.pin⟩
  · obtain ⟨o, es, ep, ho, r⟩ := hm
    exact ⟨o, es, ep, k _ o oa.loc.symm oc.loc.symm ho, r⟩
  · by_cases hb : b = a
    · subst hb
      rw [upd_same] at e
      cases e
      exact new
    · rw [upd_ne hb] at e
      refine (I.hok b u e).stay (fun x v hx q => ?_) (fun x q => by rw [upd_ne (nt x _ q)]; exact q) fun x xs q => by rw [upd_ne (nt x _ q)]; exact q
      rcases hx with z | z
      · rw [z] at q ⊢
        exact k b v hb (nt2 b u e) q
      · exact k x v (nt x _ z) (nt2 x _ z) q
/-- one of our places has turned, and is held as it is now -/
theorem turned1 {h' : Heap} {t' : Nat} {c : Addr} {o2 : Obj} (I : Inv X pins σ H s) (oc : Ours X pins c) (nc : H c = none) (k : ∀ b o, b ≠ c → s.heap.get? b = some o → h'.get? b = some o) (e2 : h'.get? c = some o2) (d2 : ∀ v, o2.data ≠ .cell v) :
    Inv X ((c, o2) :: pins) σ H { s with heap := h', toks := t' } := by
  have I2 := I.turned (t' := t') (it := c) k nc oc.loc (.inr oc.late) oc.cell oc.pin
  refine I2.pins_of fun p hp => ?_
  rcases List.mem_cons.mp hp with z | z
  · rw [z]
    exact ⟨e2, nc, oc.loc, oc.fs, d2⟩
  · exact I2.pin p (List.mem_append_right _ z)
end
def pairD (p : Int × Int) : PyData := .tuple [.int p.1, .int p.2]
def keyLe (ky : V → Int × Int) (x y : V) : Bool := decide ((ky x).1 < (ky y).1 ∨ ((ky x).1 = (ky y).1 ∧ (ky x).2 ≤ (ky y).2))
theorem each_vals : ∀ {xs : List V} {us : List Value}, Vals xs us → EachIs (fun v x => RelV x v) us xs
  | _, _, .nil => .nil
  | _, _, .cons r t => .cons r (each_vals t)
theorem vals_each : ∀ {us : List Value} {xs : List V}, EachIs (fun v x => RelV x v) us xs → Vals xs us
  | _, _, .nil => .nil
  | _, _, .cons r t => .cons r (vals_each t)
theorem rd_pair {P : Program} {w : World} {H : Hp} {h : Heap} {t : Addr} {p : Int × Int} (ok : HOk P w H h) (e : H t = some (.tup [.int p.1, .int p.2])) : ∃ as, Reads h (.ref t) (pairD p) as := by
  obtain ⟨_, its, r, o, ho, hc, n, hd⟩ := ok _ _ e
  obtain ⟨u1, u2, rfl, ri, rj⟩ := vals2 r
  obtain ⟨t1, rfl⟩ := ri
  obtain ⟨t2, rfl⟩ := rj
  exact ⟨_, .tuple ho hc hd (.cons (.int _ _) (.cons (.int _ _) .nil))⟩
section
variable {X : Cx} {pins : List (Addr × Obj)} {σ : L2.St} {H : Hp} {s : Shared}
/-- a heap without one of its objects -/
def lessOne (h : Heap) (c : Addr) : Heap := h.update c fun o => ⟨o.cls, o.dict, .freed, o.slots⟩
theorem lessOne_at (h : Heap) (c : Addr) : (lessOne h c).get? c = none := by
  unfold lessOne Heap.get?
  cases h with
  | mk objs l =>
    show (match (objs.modify c _)[c]? with | some ⟨_, _, .freed, _⟩ => none | o => o) = none
    rw [Array.getElem?_modify]
    simp only [if_true]
    cases e : objs[c]? with
    | none => rfl
    | some o => rfl
theorem lessOne_ne {h : Heap} {b c : Addr} (hb : b ≠ c) : (lessOne h c).get? b = h.get? b := Heap.get?_update_ne _ _ _ _ hb
/-- the keys' own def, for the items -/
def KeyFn (sp : Sp) (ky : V → Int × Int) (xs : List V) (H : Hp) : Prop :=
  ∀ x ∈ xs, ∀ H1, Same H H1 → ∀ Q, (∀ t H2, Same H1 H2 → H2 t = some (.tup [.int (ky x).1, .int (ky x).2]) → Q (.ref t) H2) → sp [x] H1 Q E0
def kDat (ky : V → Int × Int) (x : V) : PyData := pairD (ky x)
theorem al_keys (ky : V → Int × Int) (xs : List V) : AllAlike (xs.map (kDat ky)) := AllAlike.of fun _ _ => by simp [kDat, pairD, alike, alikeAll]
theorem so_keys (ky : V → Int × Int) (xs : List V) : Sortable (xs.map (kDat ky)) := Sortable.tuples fun _ => ⟨_, _, rfl⟩
theorem dp_keys (ky : V → Int × Int) (x : V) : (kDat ky x).depth = 1 := by simp [kDat, pairD, PyData.depth, PyData.depthAll]
/-- the list of keys: tuples that are tracked -/
def KeysAt (H : Hp) (ky : V → Int × Int) (ts : List Addr) (xs : List V) : Prop := Paired (fun t x => H t = some (.tup [.int (ky x).1, .int (ky x).2])) ts xs
theorem keys_read {P : Program} {w : World} {h : Heap} (ok : HOk P w H h) (ky : V → Int × Int) : ∀ {ts : List Addr} {xs : List V}, KeysAt H ky ts xs → EachIs (fun v d => ∃ as, Reads h v d as) (ts.map Value.ref) (xs.map (kDat ky))
  | _, _, .nil => .nil
  | _, _, .cons r t => .cons (rd_pair ok r) (keys_read ok ky t)
theorem sort_rest {k : Nat} {f : Addr} {fd : FuncData} {ps : List Str} {sp : Sp} {a kS : Addr} {e1 : Nat} {vs : List Value} {xs : List V} {ky : V → Int × Int} {P : PySem.Fin → Shared → Prop} {E : Value → Shared → Prop}
    (F : FnOk X.prog X.w X.K X.mg X.base CX0 k f fd ps sp) (hr : Room (k + 2) X.A) (hb : L2.Binds X.K fd ps [])
    (I : Inv X pins σ H s) (oa : Ours X pins a) (oc : Ours X pins kS) (hka : kS ≠ a) (na : H a = none) (nc : H kS = none) (ha : s.heap.get? a = some (seqObj "list" #[] e1)) (hk : s.heap.get? kS = some (seqObj "list" #[] 0))
    (rv : Vals xs vs) (hl : xs.length ≤ 1000) (kf : KeyFn sp ky xs H)
    (q : ∀ s' H', Inv X pins σ (upd H' a (.lst (xs.mergeSort (keyLe ky)))) s' → Same H H' → H' a = none → P (.done (.ret .none)) s') :
    wpAny (model X.prog X.w) X.A.in1.in1 (ksk_rest a (.ref f) false vs.toArray e1 (.ref kS)) P E s := by
  have hlv : vs.length = xs.length := rv.length.symm
  have z1000 : ∀ {n : Nat}, n ≤ 1000 → n ≤ sizeLine := fun h => Nat.le_of_lt (small1000 h)
  unfold ksk_rest
  refine wpAny_bind (wpAny_rule ?_)
  rw [List.forIn_toArray]
  have pa : ∀ (e : Nat) (kA : Array Value) (s1 : Shared) (H1 : Hp), Inv X ((a, seqObj "list" #[] e1) :: (kS, seqObj "list" kA e) :: pins) σ H1 s1 → s1.heap.get? a = some (seqObj "list" #[] e1) ∧ s1.heap.get? kS = some (seqObj "list" kA e) ∧ H1 a = none ∧ H1 kS = none := fun e kA s1 H1 J => by
    obtain ⟨g1, g2, _⟩ := J.pin (a, seqObj "list" #[] e1) (List.mem_append_right _ List.mem_cons_self)
    obtain ⟨g3, g4, _⟩ := J.pin (kS, seqObj "list" kA e) (List.mem_append_right _ (List.mem_cons_of_mem _ List.mem_cons_self))
    exact ⟨g1, g3, g2, g4⟩
  refine wpAny_bind (ksk_fold (fun i s1 => ∃ (H1 : Hp) (ts : List Addr) (e : Nat), Inv X ((a, seqObj "list" #[] e1) :: (kS, seqObj "list" (ts.map Value.ref).toArray e) :: pins) σ H1 s1 ∧ Same H H1 ∧ KeysAt H1 ky ts (xs.take i)) vs 0 s ?first ?turn ?last)
  case first =>
    refine ⟨H, [], 0, I.pins_of fun p hp => ?_, Same.refl _, .nil⟩
    rcases List.mem_cons.mp hp with z | hp
    · rw [z]
      exact ⟨ha, na, oa.loc, oa.fs, fun v z => by cases z⟩
    · rcases List.mem_cons.mp hp with z | hp
      · rw [z]
        exact ⟨hk, nc, oc.loc, oc.fs, fun v z => by cases z⟩
      · exact I.pin p (List.mem_append_right _ hp)
  case turn =>
    rintro j u s1 hu ⟨H1, ts, e, J, sm, kt⟩
    rw [Nat.zero_add] at kt ⊢
    have hj : j < vs.length := (List.getElem?_eq_some_iff.mp hu).1
    have hxj : xs[j]? = some xs[j] := List.getElem?_eq_getElem (by omega)
    obtain ⟨u', hu', rx⟩ := rv.get hxj
    rw [hu] at hu'
    obtain rfl := Option.some.inj hu'
    have lt : ts.length = j := by
      have := kt.length
      rw [List.length_take] at this
      omega
    refine wpAny_bind (wpAny_attempt (wpAny_mono (run_in2 (us := [u]) (vs := [xs[j]]) F hr hb J (.cons rx .nil) (kf xs[j] (List.mem_of_getElem? hxj) H1 sm (fun v H2 => ∃ t, v = .ref t ∧ Same H1 H2 ∧ H2 t = some (.tup [.int (ky xs[j]).1, .int (ky xs[j]).2])) (fun t H2 h1 h2 => ⟨t, rfl, h1, h2⟩))) (fun v s2 he => ?_) fun _ _ hF => hF.elim))
    obtain ⟨y, H2, J2, ry, t, rfl, sm2, et⟩ := he
    obtain rfl : v = Value.ref t := ry
    obtain ⟨g1, g2, g3, g4⟩ := pa _ _ _ _ J2
    have arr : (ts.map Value.ref).toArray.push (Value.ref t) = ((ts ++ [t]).map Value.ref).toArray := by simp
    obtain ⟨e', g5⟩ : ∃ e', (s2.heap.update kS (Obj.mapSeq (·.push (Value.ref t)))).get? kS = some (seqObj "list" ((ts ++ [t]).map Value.ref).toArray e') := ⟨_, by rw [← arr]; exact get?_update_seq g2 (·.push (Value.ref t))⟩
    have ku : ∀ b o, b ≠ kS → s2.heap.get? b = some o → (s2.heap.update kS (Obj.mapSeq (·.push (Value.ref t)))).get? b = some o := fun b o hb e => by
      rw [Heap.get?_update_ne _ _ _ _ hb]
      exact e
    have J3 : Inv X ((a, seqObj "list" #[] e1) :: pins) σ H2 s2 := J2.pins_of fun p hp => by
      rcases List.mem_cons.mp hp with z | hp
      · exact J2.pin p (List.mem_append_right _ (by rw [z]; exact List.mem_cons_self))
      · exact J2.pin p (List.mem_append_right _ (List.mem_cons_of_mem _ (List.mem_cons_of_mem _ hp)))
    have oc3 : Ours X ((a, seqObj "list" #[] e1) :: pins) kS := ⟨oc.late, oc.loc, oc.fs, oc.cell, fun p hp => by
      rcases List.mem_append.mp hp with z | z
      · exact oc.pin p (List.mem_append_left _ z)
      · rcases List.mem_cons.mp z with z | z
        · rw [z]
          exact hka.symm
        · exact oc.pin p (List.mem_append_right _ z)⟩
    have J4 := turned1 (t' := s2.toks) J3 oc3 g4 ku g5 (fun v z => by cases z)
    refine wpAny_bind (listUpdate_at g2 rfl ?_ (by rw [List.size_toArray, List.length_map, lt]; exact z1000 (by omega)) (by rw [Array.size_push, List.size_toArray, List.length_map, lt]; exact Nat.succ_le_succ (z1000 (by omega))))
    refine wpAny_pure ⟨rfl, H2, ts ++ [t], e', J4.pins_of fun p hp => J4.pin p (List.mem_append_right _ ?_), sm.trans sm2, ?_⟩
    · rcases List.mem_cons.mp hp with z | hp
      · rw [z]
        exact List.mem_cons_of_mem _ List.mem_cons_self
      · rcases List.mem_cons.mp hp with z | hp
        · rw [z]
          exact List.mem_cons_self
        · exact List.mem_cons_of_mem _ (List.mem_cons_of_mem _ hp)
    · rw [List.take_add_one, hxj]
      exact Paired.snoc (Paired.mapP kt fun _ _ z => sm2 _ _ z) et
  case last =>
    rintro s1 ⟨H1, ts, e, J, sm, kt⟩
    rw [Nat.zero_add, List.take_of_length_le (by omega)] at kt
    obtain ⟨g1, g2, g3, g4⟩ := pa _ _ _ _ J
    have rd := keys_read J.hok ky kt
    have lts : ts.length = xs.length := kt.length
    refine wpAny_bind (listItems_at g2 rfl ?_)
    have J0 : Inv X pins σ H1 s1 := J.pins_of fun p hp => J.pin p (List.mem_append_right _ (List.mem_cons_of_mem _ (List.mem_cons_of_mem _ hp)))
    have rd' : EachIs (fun v d => ∃ as, Reads s1.heap v d as) (ts.map Value.ref).toArray.toList (xs.map (kDat ky)) := rd
    refine keyH_end (κ := dataKind s1.heap (xs.map (kDat ky))) (h₁ := lessOne s1.heap kS) (fun b o hb hx => ?_) (lessOne_at _ _) g2 g1 hka (SortsAt.data (s := s1) rd' (al_keys ky xs) (so_keys ky xs) fun d hd => ?_) (by rw [List.size_toArray, List.length_map]; omega) (z1000 (by omega)) fun h3 tk3 c3 k3 n3 => ?_
    · by_cases z : b = kS
      · rw [z, lessOne_at] at hx
        cases hx
      · rwa [lessOne_ne z] at hx
    · obtain ⟨x, _, rfl⟩ := List.mem_map.mp hd
      rw [dp_keys]
      have := hr.un
      show X.A.units + 2 + 1 < _
      omega
    have ko : KeyedOut false (xs.map (kDat ky)) vs (sortVals (dataKind s1.heap (xs.map (kDat ky))) false (ts.map Value.ref).toArray.toList vs) := ⟨s1.heap, _, al_keys ky xs, rfl, rd'⟩
    have eo := keyedOut_each (kDat ky) ko (each_vals rv)
    have le : dataLe false (kDat ky) = keyLe ky := dataLe_ii (fun x => (ky x).1) (fun x => (ky x).2)
    rw [le] at eo
    refine q _ H1 (turned2 (t' := tk3) J0 oa oc g3 g4 hka.symm (fun b o hba hbk hx => k3 b o hba (by rw [lessOne_ne hbk]; exact hx)) ⟨?_, _, c3, vals_each eo, n3⟩) sm g3
    rw [List.length_mergeSort]
    exact z1000 hl
/-- sorted(xs, key=f), f an own def whose keys are pairs of whole numbers -/
def rSortK (K : PySem.W.Frag) (sp : Sp) (f : Addr) : List V → List V → Hp → VK → Prop := fun vs zs H Q => ∃ (a : Addr) (xs : List V) (ky : V → Int × Int), vs = [.ref a] ∧ zs = [.ref f] ∧ SqL K H a xs ∧ xs.length ≤ 1000 ∧ KeyFn sp ky xs H ∧
  ∀ p H', Same H H' → H p = none → H' p = some (.lst (xs.mergeSort (keyLe ky))) → Q (.ref p) H'
theorem cr_sortK {k : Nat} {f : Addr} {fd : FuncData} {ps : List Str} {sp : Sp} (F : FnOk X.prog X.w X.K X.mg X.base CX0 k f fd ps sp) (hr : Room (k + 2) X.A) (hb : L2.Binds X.K fd ps []) : CallRK X (.builtin "sorted") ["key"] (rSortK X.K sp f) := by
  intro pins s σ H vs zs us ws Q I r1 r2 h
  obtain ⟨a, xs, ky, rfl, rfl, hs, hl, kf, q⟩ := h
  obtain ⟨u, rfl, ru⟩ := vals1 r1
  obtain ⟨u2, rfl, ru2⟩ := vals1 r2
  obtain rfl : u = Value.ref a := ru
  obtain rfl : u2 = Value.ref f := ru2
  obtain ⟨its, rv, pl, _⟩ := I.list hs
  have z1000 : ∀ {n : Nat}, n ≤ 1000 → n ≤ sizeLine := fun h => Nat.le_of_lt (small1000 h)
  have li : its.length ≤ sizeLine := by
    rw [← rv.length]
    exact z1000 hl
  show wpAny (model X.prog X.w) X.A (call (.builtin "sorted") [.ref a] [(Str.ofString "key", .ref f)]) _ _ s
  refine sorted_of_sort pl.isList li (ksk_s1 _ _) (fun _ => ksk_l1 _ _) fun E' => ?_
  rw [ksk_t1]
  have at0 := copyHeap_at s.heap its
  obtain ⟨ep, at1⟩ : ∃ ep, ((copyHeap s.heap its).update (s.heap.objs.size + 1) (Obj.mapSeq fun _ => #[])).get? (s.heap.objs.size + 1) = some (seqObj "list" #[] ep) := ⟨_, get?_update_seq at0 _⟩
  unfold ksk_tree
  refine wpAny_bind (listItems_at at0 rfl ?_)
  refine wpAny_bind (listUpdate_at at0 rfl ?_ (by rw [List.size_toArray]; exact li) (Nat.zero_le _))
  refine wpAny_bind (seqEpoch_at at1 rfl ?_)
  refine wpAny_bind (wpAny_newTuple ?_ (by show its.length ≤ _; exact li))
  refine wpAny_bind (wpAny_newList ?_ (Nat.zero_le _))
  refine wpAny_holding ?_
  have kpt : ∀ b o, s.heap.get? b = some o → (sortingHeap (copyHeap s.heap its) (s.heap.objs.size + 1) its).get? b = some o := fun b o e => sorting_copy_old e
  have I1 := I.kept (t' := s.toks) kpt
  have szc : ((copyHeap s.heap its).update (s.heap.objs.size + 1) (Obj.mapSeq fun _ => #[])).objs.size = s.heap.objs.size + 2 := by
    rw [Heap.size_update]
    unfold copyHeap
    rw [size_push', Heap.size_update, size_push']
  have szk : (((copyHeap s.heap its).update (s.heap.objs.size + 1) (Obj.mapSeq fun _ => #[])).push (seqObj "tuple" its.toArray 0)).objs.size = s.heap.objs.size + 3 := by
    rw [size_push', szc]
  have big : ∀ j : Nat, s.heap.objs.size ≤ s.heap.objs.size + j := fun j => Nat.le_add_right _ _
  refine sort_rest (H := H) (xs := xs) (ky := ky) F hr hb I1 (ours_new I (big 1)) (ours_new I (by rw [szk]; exact big 3)) (by rw [szk]; exact Nat.ne_of_gt (Nat.add_lt_add_left (by decide) _)) (I.hok.fresh (big 1)) (I.hok.fresh (by rw [szk]; exact big 3))
    (Heap.get?_push_of_some _ (Heap.get?_push_of_some _ at1)) (Heap.get?_push_size _ rfl) rv hl kf fun s' H' J sm nn => ⟨rfl, .ref (s.heap.objs.size + 1), _, J, rfl, q _ _ (sm.trans (same_upd nn)) (I.hok.fresh (big 1)) upd_same⟩
end
end My

set_option maxHeartbeats 2000000
/-! {text for .. in ..} and sorted of a set of texts. -/
namespace SX
open PySem PySem.Spec PyProof.Rows L2 PpSet PySem.W
section
variable {X : Cx}
/-- {elt for target in iter if ..}, elt a text: D the new set -/
def tScS (P : Program) (w : World) (wi : TI) (g : TG) (tt : TT) (te : TE) (vs : List Nat) : TE := fun σ H Q => wi σ H fun J H1 => ∀ D, H1 D = none → ∃ W : Nat → Nat → Hp → Prop, (∃ m, W 0 m (upd H1 D (SetSO P w D []))) ∧ ∀ i m H, W i m H →
  (J.stop i H ∧ Q (.ref D) H) ∨ (J.go i H ∧ ∃ Nx : Hp → Prop, (∀ H', Nx H' → ∃ m', m' < m ∧ W (i + 1) m' H') ∧ ∀ x H', J.yld i H x H' → g x (wipe σ vs) H' fun σ2 H2 => wipe σ2 vs = wipe σ vs ∧ tt σ2 H2 fun b H3 =>
    if b = true then te σ2 H3 fun y H4 => ∃ (z : Str) (zs : List Str), y = .str z ∧ H4 D = some (SetSO P w D zs) ∧ zs.length + 1 < scanBound ∧ Nx (upd H4 D (SetSO P w D (more zs z))) else Nx H3)
theorem pe_scS {elt tg iter : Expr} {ifs : List Expr} {scope : Scope} {own : List (PySem.Str × Nat)} {pos : Pos} {wi : TI} {g : TG} {tt : TT} {te : TE} (hc : X.calm = true) (hN : X.N.Nodup) (hi : PI X tg iter wi) (ok : BlkOk X.N X.env.scope scope own)
    (hg : ∀ (s : Shared) (H : Hp) (C : Addr) (cl : List (PySem.Str × Addr)) (fp : List Addr), PG (X.blk s H scope (compEnvC scope cl C X.env) fp) tg g) (ht : ∀ (s : Shared) (H : Hp) (C : Addr) (cl : List (PySem.Str × Addr)) (fp : List Addr), PTs (X.blk s H scope (compEnvC scope cl C X.env) fp) ifs tt)
    (he : ∀ (s : Shared) (H : Hp) (C : Addr) (cl : List (PySem.Str × Addr)) (fp : List Addr), PE (X.blk s H scope (compEnvC scope cl C X.env) fp) elt te) (hs : ∀ x, foldedSetIterable iter X.env x = pure x := by intro _; rfl) :
    PE X (.SetComp elt [⟨tg, iter, ifs, 0⟩] scope pos) (tScS X.prog X.w wi g tt te (own.map (·.2))) := by
  refine ⟨fun pins s σ H Q I h => ?_⟩
  rw [eval_SetComp]
  have hfree : ∀ y ∈ scope.names, y.2 = .free → ∃ c, X.env.cells.lookup y.1 = some c := fun y hy e => (ok.free y hy e).elim (fun k => I.ok.has _ (.inl k)) fun k => I.ok.has _ (.inr k)
  refine wpAny_comprehension_free (use := none) rfl hs (closure_ok hfree) ok.kind (fun y hy e => by rw [ok.uniq y hy, e]) (thn (hi.run pins s σ H _ I h) fun xv s1 hx => thn hx fun itv s2 h2 => ?_)
  obtain ⟨it, fp, tn, J, H2, e, I2, T, st2, f2, q⟩ := h2
  subst e
  refine newSet_ok (newEnv_comp ?_)
  generalize hD : s2.heap.objs.size = D
  obtain ⟨W, ⟨m0, w0⟩, turn⟩ := q D (I2.hok.fresh (Nat.le_of_eq hD))
  -- the new set
  generalize hs3 : ({ s2 with heap := s2.heap.push { cls := .type "set", dict := none, data := .set #[] 0 (.fresh 0 0 (!X.w.params.followText "set-order")) } } : Shared) = s3
  have h3 : s3.heap = s2.heap.push { cls := .type "set", dict := none, data := .set #[] 0 (.fresh 0 0 (!X.w.params.followText "set-order")) } := by rw [← hs3]
  have I3 : Inv X pins σ (upd H2 D (SetSO X.prog X.w D [])) s3 := by
    rw [← hs3]
    refine I2.laid (t' := s2.toks) (fun b o e => Heap.get?_push_of_some _ e) (Nat.le_of_eq hD) ?_
    rw [← hD]
    exact setSO_new (fresh_set X.prog X.w)
  have lt2 : ∀ b ∈ fp, b < s2.heap.objs.size := fun b hb => by
    obtain ⟨o, e, _⟩ := T.obj _ _ st2 b hb
    exact Heap.lt_size e
  have f3 : ∀ b ∈ fp, FpOk X pins (upd H2 D (SetSO X.prog X.w D [])) b ∧ b < s3.heap.objs.size := fun b hb => by
    refine ⟨⟨?_, (f2 b hb).2⟩, by rw [h3, Heap.size_push]; exact Nat.lt_succ_of_lt (lt2 b hb)⟩
    rw [upd_ne (by rw [← hD]; exact Nat.ne_of_lt (lt2 b hb))]
    exact (f2 b hb).1
  have st3 : tn 0 s3.heap := T.keep _ _ _ st2 fun b _ o e => by rw [h3]; exact Heap.get?_push_of_some _ e
  have I4 := block_start I3 ok hN f3
  generalize hce : compEnvC scope (cellsFrom (s3.heap.objs.size + 1) scope.names (cloFrom X.env.cells scope.names [])) s3.heap.objs.size X.env = ce at I4
  have cL : ce.locals = s3.heap.objs.size := by subst hce; rfl
  generalize hH3 : upd H2 D (SetSO X.prog X.w D []) = H3 at I3 I4 w0 f3
  have pg : PG (X.blk s3 H3 scope ce fp) tg g := hce ▸ hg s3 H3 _ _ fp
  have pt : PTs (X.blk s3 H3 scope ce fp) ifs tt := hce ▸ ht s3 H3 _ _ fp
  have pe : PE (X.blk s3 H3 scope ce fp) elt te := hce ▸ he s3 H3 _ _ fp
  show codeAny _ _ (.compStart (.SetComp elt [⟨tg, iter, ifs, 0⟩] scope pos) 0 (.ref it) (.ref D) (compEnvC scope (cellsFrom (s3.heap.objs.size + 1) scope.names (cloFrom X.env.cells scope.names [])) s3.heap.objs.size X.env)) _ { s3 with heap := pushCells (s3.heap.push { cls := .type "dict", data := .dict #[] }) scope.names }
  rw [hce]
  generalize hs4 : ({ s3 with heap := pushCells (s3.heap.push { cls := .type "dict", data := .dict #[] }) scope.names } : Shared) = s4 at I4 ⊢
  have st4 : tn 0 s4.heap := T.keep _ _ _ st3 fun b _ o e => by rw [← hs4]; exact pushCells_keeps _ _ _ _ (Heap.get?_push_of_some _ e)
  have stat : ∀ {σ' : L2.St} {H' : Hp} {s' : Shared}, Inv (X.blk s3 H3 scope ce fp) [] σ' H' s' → (∀ b ∈ fp, H' b = none) → ∀ b ∈ fp, FpOk (X.blk s3 H3 scope ce fp) [] H' b := fun {σ' H' s'} I' hn b hb =>
    ⟨hn b hb, (I'.ok.exf b hb).1, I'.ok.exfs b hb, .inl hb, fun x c e => (I'.ok.exf b hb).2 x c e, fun p hp => absurd (show p ∈ ([] : List (Addr × Obj)) ++ [] from hp) (by simp)⟩
  refine codeAny_compStart_set ?loop (T.self X.A 0 _ _ _ st4 ?loop)
  refine compLoopS_any (fun n s' => ∃ i H', Inv (X.blk s3 H3 scope ce fp) [] (wipe σ (own.map (·.2))) H' s' ∧ tn i s'.heap ∧ (∀ b ∈ fp, H' b = none) ∧ W i n H') ?_ m0 ⟨0, H3, I4, st4, fun b hb => (f3 b hb).1.1, w0⟩
  rintro n s5 ⟨i, H5, I5, st5, n5, w5⟩
  rcases turn i n H5 w5 with ⟨stop, qq⟩ | ⟨go, Nx, hNx, step⟩
  · refine thnF (T.done (X.blk s3 H3 scope ce fp) rfl rfl rfl hc i [] s5 _ H5 (fun _ _ => False) I5 (stat I5 n5) st5 stop) fun r s6 ⟨hr, I6⟩ => ?_
    subst hr
    have I7 : Inv X pins σ H5 s6 := I3.call' (ch := fp) I6.os I6.base I6.hok I6.bare fun b hb => ⟨(f3 b hb).1.2.2.2.1, (f3 b hb).1.2.1, (f3 b hb).1.2.2.2.2.1, (f3 b hb).1.2.2.2.2.2⟩
    have nC : H5 s3.heap.objs.size = none := by
      have z : H5 ce.locals = none := I6.free
      rwa [cL] at z
    obtain ⟨m, hn, _⟩ := I6.loc
    have hn : s6.heap.Ns ce.locals m := hn
    rw [cL] at hn
    obtain ⟨a0, a1, a2, a3, a4, a5⟩ := I3.fpOk (Nat.le_refl _) nC
    exact ⟨m, hn, fun h'' sb => ⟨.ref D, H5, I7.turned (t' := s6.toks) (fun b o hb e => (sb.2 b hb).trans e) a0 a1 a3 a4 a5, rfl, qq⟩⟩
  · refine thnF (T.item (X.blk s3 H3 scope ce fp) rfl rfl rfl hc i [] s5 _ H5 (fun _ _ => False) I5 (stat I5 n5) st5 go) fun r s6 ⟨u, hr, h6⟩ => ?_
    subst hr
    refine thnF h6 fun _ s7 ⟨x, H7, I7, r7, y7, st7, n7⟩ => ?_
    refine thnF (pg.run _ s7 _ H7 x u _ (I7.pinned (stat I7 n7) (T.obj _ _ st7)) r7 (step x H7 y7)) fun _ s8 ⟨σ8, H8, I8, hw8, q8⟩ => ?_
    refine thnF (pt.run _ s8 σ8 H8 _ I8 q8) fun b s9 ⟨H9, I9, q9⟩ => ?_
    have fin : ∀ {s' : Shared} {H' : Hp}, Inv (X.blk s3 H3 scope ce fp) ([] ++ pinsAt fp s7.heap) σ8 H' s' → Nx H' → ∃ m, m < n ∧ ∃ i H', Inv (X.blk s3 H3 scope ce fp) [] (wipe σ (own.map (·.2))) H' s' ∧ tn i s'.heap ∧ (∀ b ∈ fp, H' b = none) ∧ W i m H' := fun {s' H'} I' nx => by
      obtain ⟨m', hm, w'⟩ := hNx H' nx
      have pin' : ∀ b ∈ fp, ∀ o, s7.heap.get? b = some o → s'.heap.get? b = some o ∧ H' b = none := fun b hb o e =>
        let z := I'.pin (b, o) (List.mem_append_right _ (List.mem_append_right _ (mem_pinsAt hb e)))
        ⟨z.1, z.2.1⟩
      have hl : (wipe σ (own.map (·.2))).length = σ8.length := by rw [← hw8, wipe_length]
      refine ⟨m', hm, i + 1, H', (I'.unpinned (pins := [])).weak hl (fun j v e => ?_), T.keep _ _ _ st7 fun b hb o e => (pin' b hb o e).1, fun b hb => ?_, w'⟩
      · rw [← hw8] at e
        exact (wipe_some e).1
      · obtain ⟨o, e, _⟩ := T.obj _ _ st7 b hb
        exact (pin' b hb o e).2
    cases b with
    | false =>
      simp only [Bool.false_eq_true, if_false] at q9 ⊢
      exact fin I9 q9
    | true =>
      simp only [if_true] at q9 ⊢
      refine thnF (pe.run _ s9 σ8 H9 _ I9 q9) fun v s10 ⟨yv, H10, I10, r10, z, zs, ey, hD10, room, nx⟩ => ?_
      subst ey
      obtain ⟨tk, rfl⟩ := r10
      exact add_ok (X := X.blk s3 H3 scope ce fp) I10 hD10 room fun s11 I11 => fin I11 nx
/-- over a walk -/
theorem sc_it {P : Program} {w : World} {J : It} {n : Nat} {G : Hp → Prop} {Y : Nat → Hp → V → Hp → Prop} (wk : Walk J n G Y) {g : TG} {tt : TT} {te : TE} {vs : List Nat} {σ : L2.St} {H1 : Hp} {D : Addr} {Qd : Hp → Prop} (Pv : Nat → Hp → Prop) (h0 : Pv 0 (upd H1 D (SetSO P w D []))) (hG : ∀ i H, i ≤ n → Pv i H → G H)
    (hs : ∀ i x H H', i < n → Pv i H → Y i H x H' → g x (wipe σ vs) H' fun σ2 H2 => wipe σ2 vs = wipe σ vs ∧ tt σ2 H2 fun b H3 =>
      if b = true then te σ2 H3 fun y H4 => ∃ (z : Str) (zs : List Str), y = .str z ∧ H4 D = some (SetSO P w D zs) ∧ zs.length + 1 < scanBound ∧ Pv (i + 1) (upd H4 D (SetSO P w D (more zs z))) else Pv (i + 1) H3) (hd : ∀ H, Pv n H → Qd H) :
    ∃ W : Nat → Nat → Hp → Prop, (∃ m, W 0 m (upd H1 D (SetSO P w D []))) ∧ ∀ i m H, W i m H →
      (J.stop i H ∧ Qd H) ∨ (J.go i H ∧ ∃ Nx : Hp → Prop, (∀ H', Nx H' → ∃ m', m' < m ∧ W (i + 1) m' H') ∧ ∀ x H', J.yld i H x H' → g x (wipe σ vs) H' fun σ2 H2 => wipe σ2 vs = wipe σ vs ∧ tt σ2 H2 fun b H3 =>
        if b = true then te σ2 H3 fun y H4 => ∃ (z : Str) (zs : List Str), y = .str z ∧ H4 D = some (SetSO P w D zs) ∧ zs.length + 1 < scanBound ∧ Nx (upd H4 D (SetSO P w D (more zs z))) else Nx H3) := by
  refine ⟨fun i m H => m = n - i ∧ i ≤ n ∧ Pv i H, ⟨n, by simp, Nat.zero_le _, h0⟩, ?_⟩
  rintro i m H ⟨rfl, hi, p⟩
  have q := hG i H hi p
  by_cases hlt : i < n
  · exact .inr ⟨wk.goes i H hlt q, Pv (i + 1), fun H' p' => ⟨n - (i + 1), by omega, rfl, hlt, p'⟩, fun x H' y => hs i x H H' hlt p (wk.yields i H x H' hlt q y)⟩
  · have e : i = n := by omega
    subst e
    exact .inl ⟨wk.stops H q, hd H p⟩
/-- sorted of a set of texts: its texts, each once, in some order -/
def rSortS (P : Program) (w : World) : List V → Hp → VK → Prop := fun vs H Q => ∃ (a : Addr) (zs : List Str), vs = [V.ref a] ∧ H a = some (SetSO P w a zs) ∧ ∀ (ys : List Str) (p : Addr), ys.Perm zs → H p = none → Q (.ref p) (upd H p (.lst (ys.map V.str)))
theorem cr_sortS (hc : X.calm = true) (hu : X.A.units + 64 < cLine) : CallR X (.builtin "sorted") (rSortS X.prog X.w) := by
  intro pins s σ H vs us Q I r h
  obtain ⟨a, zs, rfl, ha, q⟩ := h
  obtain ⟨o, es, ep, t, ho, hex, hd, g, pm, nd, hb, hf, hr, hl⟩ := setSO_get I ha
  rw [Vals.ref1 r]
  refine Calls.call_function_entry kind_sorted plain_sorted entry_sorted (args_sorted1 _) ?_
  unfold Builtin.«sorted»
  refine wpAny_bind (m := checkCount "sorted" 1 1 _) (wpAny_pure ?_)
  refine wpAny_bind (collect_set (A := X.A.in1) (I.ok.hd hc) ⟨o, ho, hex.1, hd⟩ hf hb hr hl fun s1 us k1 hz g1 o1 pe => ?_)
  -- the texts as they come
  have tx : ∀ {us : List Value}, (∀ v ∈ us, ∃ z t, v = Value.str z t) → ∃ ys : List Str, Vals (ys.map V.str) us ∧ us.map (fun v => txtOf (0, v)) = ys := by
    intro us
    induction us with
    | nil => exact fun _ => ⟨[], .nil, rfl⟩
    | cons v us ih =>
      intro h
      obtain ⟨z, t, rfl⟩ := h v List.mem_cons_self
      obtain ⟨ys, h1, h2⟩ := ih fun u hu => h u (List.mem_cons_of_mem _ hu)
      exact ⟨z :: ys, .cons ⟨t, rfl⟩ h1, by rw [List.map_cons, h2]; rfl⟩
  obtain ⟨ys, r1, e1⟩ := tx (us := us) fun v hv => by
    obtain ⟨e, he, rfl⟩ := List.mem_map.mp (pe.mem_iff.mp hv)
    obtain ⟨z, t, h1, _⟩ := g e he
    exact ⟨z, t, h1⟩
  have p1 : ys.Perm zs := by
    rw [← e1]
    refine (pe.map _).trans ?_
    rw [List.map_map]
    exact pm
  have lz : us.length ≤ sizeLine := by
    rw [pe.length_eq, List.length_map, Array.length_toList]
    exact fits_of_scanBound hb
  refine wpAny_bind (wpAny_newList ?_ lz)
  have hoL : (s1.heap.push (seqObj "list" us.toArray 0)).get? s1.heap.objs.size = some (seqObj "list" us.toArray 0) := Heap.get?_push_size _ rfl
  have ev : ∀ {ys : List Str} {us : List Value}, Vals (ys.map V.str) us → EachIs (fun (v : Value) (z : Str) => RelV (.str z) v) us ys := by
    intro ys
    induction ys with
    | nil => intro us r; cases r; exact .nil
    | cons z ys ih => intro us r; cases r with | cons r t => exact .cons r (ih t)
  have ve : ∀ {us : List Value} {ys : List Str}, EachIs (fun (v : Value) (z : Str) => RelV (.str z) v) us ys → Vals (ys.map V.str) us := by
    intro us ys e
    induction e with
    | nil => exact .nil
    | cons r t ih => exact .cons r ih
  refine wpAny_bind (wpAny_holding (list_sort_data (s := { s1 with heap := s1.heap.push (seqObj "list" us.toArray 0) }) (enc := PyData.str) hoL (ev r1) ((ev r1).mono fun v z r => ?_) ?_ ?_ (by rw [← (ev r1).length]; exact lz) (fun z hz => ?_) fun out lo eo => ?_))
  · obtain ⟨t, rfl⟩ := r
    exact ⟨[], Reads.str .., fun h => nomatch h⟩
  · intro d hd d' hd'
    obtain ⟨z, _, rfl⟩ := List.mem_map.mp hd
    obtain ⟨z', _, rfl⟩ := List.mem_map.mp hd'
    rfl
  · refine .inr fun d hd => ?_
    obtain ⟨z, _, rfl⟩ := List.mem_map.mp hd
    exact ⟨(fun h => by cases h), (fun xs h => by cases h)⟩
  · show X.A.units + 1 + 1 + 0 < cLine
    omega
  obtain ⟨c, at1⟩ := sortedHeap_at (vs := us) (out := out.toArray) hoL
  have keep : ∀ b u, s.heap.get? b = some u → (sortedHeap (s1.heap.push (seqObj "list" us.toArray 0)) s1.heap.objs.size us out.toArray).get? b = some u := fun b u e => by
    have q := k1 b u e
    have hlt := Heap.lt_size q
    rw [sortedHeap_old (Nat.ne_of_lt hlt) (by rw [size_push']; exact Nat.lt_succ_of_lt hlt)]
    exact Heap.get?_push_of_some _ q
  have pp : (ys.mergeSort (dataLe false PyData.str)).Perm zs := (List.mergeSort_perm _ _).trans p1
  have hn : H s1.heap.objs.size = none := I.hok.fresh hz
  have hlen : ((ys.mergeSort (dataLe false PyData.str)).map V.str).length ≤ sizeLine := by
    rw [List.length_map, List.length_mergeSort, ← (ev r1).length]
    exact lz
  have J : Inv X pins σ (upd H s1.heap.objs.size (.lst ((ys.mergeSort (dataLe false PyData.str)).map V.str))) { s with heap := sortedHeap (s1.heap.push (seqObj "list" us.toArray 0)) s1.heap.objs.size us out.toArray, gens := s1.gens, drawn := s1.drawn, toks := s1.toks } :=
    I.call (ch := []) (Un.laid keep hz hn) (I.hok.laid keep hz ⟨hlen, out, c, ve eo, at1⟩) (by rw [g1]; exact I.bare) (fun _ z => nomatch z)
  refine wpAny_pure ⟨_, rfl, ?_⟩
  have e : ({ s1 with heap := sortedHeap (s1.heap.push (seqObj "list" us.toArray 0)) s1.heap.objs.size us out.toArray } : Shared) = { s with heap := sortedHeap (s1.heap.push (seqObj "list" us.toArray 0)) s1.heap.objs.size us out.toArray, gens := s1.gens, drawn := s1.drawn, toks := s1.toks } := by
    cases s1
    cases s
    cases o1
    rfl
  show ∃ x H', Inv X pins σ H' ({ s1 with heap := sortedHeap (s1.heap.push (seqObj "list" us.toArray 0)) s1.heap.objs.size us out.toArray } : Shared) ∧ _
  rw [e]
  exact ⟨.ref _, _, J, rfl, q _ _ pp hn⟩
end
end SX

namespace My
open PySem PySem.Spec PyProof.Rows L2 RT
section
variable {prog : Program} {w : World} {A : Around} {E : Value → Shared → Prop} {s : Shared}
/-- list(it), it a list's iterator from its end -/
theorem call_list_rev {it l : Addr} {items : Array Value} {Q : Value → Shared → Prop} (hh : A.handled = none) (hit : s.heap.IsRevIter it l ((items.size : Int) - 1)) (hl : s.heap.IsList l items) (hne : l ≠ it) (hn : items.size ≤ sizeLine)
    (q : ∀ (h' : Heap) (tk : Nat) (acc : Array Value) (c : Nat), (∀ b o, b ≠ it → s.heap.get? b = some o → h'.get? b = some o) → h'.get? s.heap.objs.size = some (seqObj "list" acc c) → ItemsOf (fun i v => items[items.size - 1 - i]? = some v) acc items.size → Q (.ref s.heap.objs.size) { s with heap := h', toks := tk }) :
    wpAny (model prog w) A (call (.type "list") [.ref it]) Q E s := by
  obtain ⟨oi, hoi, _⟩ := id hit
  obtain ⟨ol, hol, _⟩ := id hl
  have ni : s.heap.objs.size ≠ it := Nat.ne_of_gt (Heap.lt_size hoi)
  have nl : s.heap.objs.size ≠ l := Nat.ne_of_gt (Heap.lt_size hol)
  have nf : s.heap.objs.size ∉ [it, l] := fun z => by
    rcases List.mem_cons.mp z with z | z
    · exact ni z
    · exact nl (List.mem_singleton.mp z)
  refine callType_codes (Q₁ := fun obj s₁ => obj = .ref s.heap.objs.size ∧ s₁ = { s with heap := s.heap.push (seqObj "list" #[] 0) }) F.called_list (F.typeCall_list_1 _) F.entry_list_init (code_list_new _ ⟨rfl, rfl⟩) fun obj s₁ hx => ?_
  obtain ⟨rfl, rfl⟩ := hx
  have e0 : (s.heap.push (seqObj "list" #[] 0)).get? s.heap.objs.size = some (seqObj "list" #[] 0) := Heap.get?_push_size _ rfl
  refine ⟨⟨_, e0, rfl⟩, F.args_list_init_2 _ _, ?_⟩
  show wpAny _ _ (do let old ← Builtin.List.listItems (.ref s.heap.objs.size); Builtin.List.listUpdate (.ref s.heap.objs.size) (fun _ => #[]); letGo old.toList.reverse; Builtin.List.listExtendWith (.ref s.heap.objs.size) (.ref it) .none) _ _ _
  refine wpAny_bind (listItems_at e0 rfl ?_)
  refine wpAny_bind (listUpdate_at e0 rfl ?_ (Nat.zero_le _) (Nat.zero_le _))
  refine wpAny_bind (wpAny_letGo ?_)
  obtain ⟨n1, e1⟩ : ∃ n1, ((s.heap.push (seqObj "list" #[] 0)).update s.heap.objs.size (Obj.mapSeq fun _ => #[])).get? s.heap.objs.size = some (seqObj "list" #[] n1) := ⟨_, get?_update_seq e0 _⟩
  have old : ∀ b o, s.heap.get? b = some o → ((s.heap.push (seqObj "list" #[] 0)).update s.heap.objs.size (Obj.mapSeq fun _ => #[])).get? b = some o := fun b o e => by
    rw [Heap.get?_update_ne _ _ _ _ (Nat.ne_of_lt (Heap.lt_size e))]
    exact Heap.get?_push_of_some _ e
  generalize (s.heap.push (seqObj "list" #[] 0)).update s.heap.objs.size (Obj.mapSeq fun _ => #[]) = h1 at e1 old
  have r1 : h1.IsRevIter it l ((items.size : Int) - 1) := hit.at fun o e => old _ _ e
  have l1 : h1.IsList l items := by
    obtain ⟨o, ho, r⟩ := hl
    exact ⟨o, old _ _ ho, r⟩
  have ty : ({ s with heap := h1 } : Shared).TypeIs (.ref it) "list_reverseiterator" := Heap.IsRevIter.typeIs (s := { s with heap := h1 }) r1
  have no : Builtin.List.listSameRef (.ref s.heap.objs.size) (.ref it) = false := by simp [Builtin.List.listSameRef, ni]
  have W := (Walks.listRev (prog := prog) (w := w) (A := A.in1.in1) hh it l hne items).toS
  unfold Builtin.List.listExtendWith
  refine wpAny_bind (wpAny_typeOf ty ?_)
  rw [if_neg (by rw [no]; decide)]
  refine wpAny_bind (wpAny_pyIter_revIter (s := { s with heap := h1 }) r1 ?_)
  refine wpAny_bind (wpAny_holding ?_)
  unfold Builtin.List.listLengthHint
  refine wpAny_bind (wpAny_specialOf ty nolen_lri ?_)
  show wpAny _ _ (specialOf (Value.ref it) (Str.ofString "__length_hint__") >>= _) _ _ _
  refine wpAny_bind (wpAny_specialOf ty hint_lri ?_)
  generalize nm : ("list_reverseiterator.__length_hint__" : String) = nm0
  wp_delta
  rw [show splitId nm0 = some ("list_reverseiterator", "__length_hint__") from by subst nm; decide +kernel]
  subst nm
  refine wpAny_bind (wpAny_isInstance (b := true) ty (by rw [isSubtype_type]; kernel_rfl) ?_)
  refine wpAny_pure ?_
  rw [if_neg (by decide)]
  have z0 : ((items.size : Nat) : Int) - 1 - ((0 : Nat) : Int) = (items.size : Int) - 1 := by omega
  refine wpAny_pure ⟨plainId_quiet F.plain_extend_loop _, codeAny_extend_loopS W hn _ nf _ items.size 0 _ _ _ rfl (Nat.zero_le _) ⟨Nat.zero_le _, by rw [z0]; exact r1, l1⟩ e1 (ItemsOf.nil _) fun s' acc' c' hm hS hacc => ?_⟩
  rw [Moved.eq_with hm]
  refine ⟨rfl, q s'.heap s'.toks acc' c' (fun b o hb e => hm.heap b o (fun z => ?_) (old _ _ e)) hS hacc⟩
  rcases List.mem_cons.mp z with z | z
  · exact absurd (Heap.lt_size e) (by rw [z]; exact Nat.lt_irrefl _)
  · exact hb (List.mem_singleton.mp z)
end
section
variable {X : Cx}
/-- list(reversed(x)), x a list -/
def tLstRev (K : PySem.W.Frag) (te : TE) : TE := fun σ H Q => te σ H fun v H1 => ∃ (a : Addr) (xs : List V), v = .ref a ∧ SqL K H1 a xs ∧ ∀ p, H1 p = none → Q (.ref p) (upd H1 p (.lst xs.reverse))
theorem pe_lstRev {e : Expr} {te : TE} {p p2 pos pos2 : Pos} (hc : X.calm = true) (hg : Gl X "list") (hm : X.mg "list" = none) (hg2 : Gl X "reversed") (hm2 : X.mg "reversed" = none) (he : PE X e te)
    (h1 : starEach [e] X.env = (false, eval e X.env) :: starEach [] X.env := by rfl)
    (h2 : starEach [.Call (.Name "reversed" p2) [e] [] pos2] X.env = (false, eval (.Call (.Name "reversed" p2) [e] [] pos2) X.env) :: starEach [] X.env := by rfl) :
    PE X (.Call (.Name "list" p) [.Call (.Name "reversed" p2) [e] [] pos2] [] pos) (tLstRev X.K te) := by
  refine ⟨fun pins s σ H Q I h => ?_⟩
  refine Call_ (ld_blt I hg hm bt_list (callWith_type1 (args_cons (Call_ (ld_blt I hg2 hm2 boot_reversed (callWith_type1 (args_cons (thn (he.run pins s σ H _ I h) fun u s1 ⟨v, H1, I1, r1, q1⟩ => args_nil ?_) h1) h1 rfl))) h2) h2 rfl))
  obtain ⟨a, xs, rfl, hq, q⟩ := q1
  obtain rfl : u = Value.ref a := r1
  obtain ⟨its, rv, pl, hz⟩ := I1.list hq
  refine call_reversed_list pl.isList (args_nil ?_)
  have I2 : Inv X pins σ H1 { s1 with heap := s1.heap.push (revObj a ((its.toArray.size : Int) - 1)) } := I1.kept (t' := s1.toks) fun b o e => Heap.get?_push_of_some _ e
  obtain ⟨f0, f1, f2, f3, f4, f5⟩ := I1.fpOk (H' := H1) (b := s1.heap.objs.size) (Nat.le_refl _) (I1.hok.fresh (Nat.le_refl _))
  have li := pl.isList
  obtain ⟨ol, hol, _⟩ := id li
  have hn : its.toArray.size ≤ sizeLine := by
    rw [List.size_toArray, ← rv.length]
    exact hz
  refine call_list_rev (s := { s1 with heap := s1.heap.push (revObj a ((its.toArray.size : Int) - 1)) }) (I1.ok.hd hc) ⟨_, Heap.get?_push_size _ rfl, rfl, rfl⟩ (li.push _) (Nat.ne_of_lt (Heap.lt_size hol)) hn fun h' tk acc c hk hat hi => ?_
  have bigger : s1.heap.objs.size ≤ (s1.heap.push (revObj a ((its.toArray.size : Int) - 1))).objs.size := by
    rw [size_push']
    exact Nat.le_succ _
  generalize hL : (s1.heap.push (revObj a ((its.toArray.size : Int) - 1))).objs.size = L at hat bigger ⊢
  have neL : L ≠ s1.heap.objs.size := by
    rw [← hL, size_push']
    exact Nat.succ_ne_self _
  have oL : Ours X pins L := ours_new I1 bigger
  have oR : Ours X pins s1.heap.objs.size := ours_new I1 (Nat.le_refl _)
  refine ⟨.ref L, upd H1 L (.lst xs.reverse), turned2 (t' := tk) I2 oL oR (I1.hok.fresh bigger) (I1.hok.fresh (Nat.le_refl _)) neL (fun b o _ hb e => hk b o hb e) ⟨?_, acc.toList, c, vals_rev rv hi, ?_⟩, rfl, q _ (I1.hok.fresh bigger)⟩
  · rw [List.length_reverse]
    exact hz
  · rw [Array.toArray_toList]
    exact hat
end
end My

namespace My
open PySem PySem.W PySem.Spec PyProof.Rows L2
section
variable {X : Cx}
theorem shaped_plain {d : PyData} (h : SeqAt.shaped d = true) : d.plain = true := PyData.plain_of_canLay0 d (SeqAt.canLay_of_shaped h)
/-- xs.remove(y): the first that is equal goes -/
def rRemD (K : PySem.W.Frag) : V → List V → Hp → VK → Prop := fun x xs H Q => ∃ (l : Addr) (vs : List V) (y : V) (d : PyData) (ds : List PyData) (j : Nat), x = .ref l ∧ xs = [y] ∧ H l = some (.lst vs) ∧ DpAll K H vs ds ∧ Dp K H y d ∧
  SeqAt.shaped (.list ds) = true ∧ SeqAt.shaped d = true ∧ SeqAt.dataPlace ds d = some j ∧ Q .non (upd H l (.lst (vs.eraseIdx j)))
theorem mt_removeD (hu : X.A.units + 65 < cLine) : MtM X "list.remove" (rRemD X.K) := by
  intro pins s σ H x xs v us Q I rx rxs h
  obtain ⟨l, vs, y, d, ds, j, rfl, rfl, hl, ha, hy, sl, sd, hp, q⟩ := h
  cases rx
  obtain ⟨u, rfl, ru⟩ := rxs.one
  obtain ⟨z, its, n, r, hlen, e⟩ := I.lstM hl
  obtain ⟨bs, r1⟩ := Dp.reads I d y u hy ru
  obtain ⟨as, r2⟩ := Dp.readsAll I ds vs its ha r
  have dd := SeqAt.depth_of_shaped sd
  refine SeqAt.remove_list_data (vs := its.toArray) (xs := ds) (d := d) (j := j) ⟨_, e, rfl, n, rfl⟩ r2 r1 (by have := shaped_plain sl; simpa [PyData.plain] using this) (shaped_plain sd) ?_ hp (by rw [List.size_toArray, ← hlen]; exact z) ?_
  · have := Nat.min_le_right (PyData.depthAll ds) d.depth
    omega
  · have rr := r.eraseIdx j
    refine ⟨.non, _, I.lset (its' := its.eraseIdx j) (t' := s.toks) hl e ?_ rr ?_, rfl, q⟩
    · show its.toArray.eraseIdxIfInBounds j = (its.eraseIdx j).toArray
      rw [List.eraseIdxIfInBounds_toArray]
    · have := List.length_eraseIdx_le vs j
      omega
/-- sorted(xs), xs a list of data that are alike -/
def rSortD (K : PySem.W.Frag) : List V → Hp → VK → Prop := fun vs H Q => ∃ (a : Addr) (xs : List V) (enc : V → PyData), vs = [.ref a] ∧ SqL K H a xs ∧ (∀ x ∈ xs, Dp K H x (enc x)) ∧ AllAlike (xs.map enc) ∧ Sortable (xs.map enc) ∧ (∀ x ∈ xs, (enc x).depth ≤ 60) ∧
  ∀ p, H p = none → Q (.ref p) (upd H p (.lst (xs.mergeSort (dataLe false enc))))
theorem cr_sortD (hu : X.A.units + 64 < cLine) : CallR X (.builtin "sorted") (rSortD X.K) := by
  intro pins s σ H vs us Q I r h
  obtain ⟨a, xs, enc, rfl, hs, hd, hal, hso, hdp, q⟩ := h
  obtain ⟨its, rv, hl, hz⟩ := I.list hs
  rw [Vals.ref1 r]
  have er : ∀ {xs : List V} {its : List Value}, (∀ x ∈ xs, Dp X.K H x (enc x)) → Vals xs its → EachIs (fun v b => ∃ as, Reads s.heap v (enc b) as) its xs := by
    intro xs its hd rv
    induction rv with
    | nil => exact .nil
    | cons r t ih => exact .cons (Dp.reads I _ _ _ (hd _ List.mem_cons_self) r) (ih fun x hx => hd x (List.mem_cons_of_mem _ hx))
  refine sorted_data hl.isList (each_vals rv) (er hd rv) hal hso hz (fun x hx => ?_) fun out ho eo => ?_
  · have := hdp x hx
    omega
  obtain ⟨ep, at1⟩ := sortedAll_at s.heap its out.toArray
  refine ⟨.ref _, upd H (s.heap.objs.size + 1) (.lst (xs.mergeSort (dataLe false enc))), I.laid (t' := s.toks) (fun _ _ => sortedAll_old) (Nat.le_succ _) ⟨?_, out, ep, vals_each eo, at1⟩, rfl, q _ (I.hok.fresh (Nat.le_succ _))⟩
  rw [List.length_mergeSort]
  exact hz
end
end My

set_option maxHeartbeats 1000000
namespace SX
open PySem PySem.W PySem.Spec PyProof.Rows L2
/-! sorted of a dict and of a list, texts all, however many -/
theorem rise_of : ∀ (l : List Str) (p : Str), (p :: l).Pairwise (fun a b => ltCps b.cps.toList a.cps.toList = false) → risingS p l = true
  | [], _, _ => rfl
  | x :: r, p, h => by
    rw [List.pairwise_cons] at h
    show (!ltCps x.cps.toList p.cps.toList && risingS x r) = true
    rw [h.1 x List.mem_cons_self, rise_of r x h.2]
    rfl
theorem sorted_of {l : List Str} (h : l.Pairwise (fun a b => ltCps b.cps.toList a.cps.toList = false)) : sortedS l = true := by
  cases l with
  | nil => rfl
  | cons x r => exact rise_of r x h
theorem merge_sorted (ys : List Str) : sortedS (ys.mergeSort (dataLe false PyData.str)) = true := by
  have tl := sortLe_total (listOrd itemOrd) false fun z : Str => keyToks (PyData.str z)
  have so := List.pairwise_mergeSort (le := dataLe false PyData.str) (fun a b c => tl.trans a b c) (fun a b => by rw [Bool.or_eq_true]; exact tl.total a b) ys
  refine sorted_of (so.imp fun {a b} h => ?_)
  have h' : (!dataLt (PyData.str b) (PyData.str a)) = true := h
  rw [dataLt_str, lt_meets] at h'
  simpa using h'
section
variable {X : Cx}
theorem str_alike (ys : List Str) : AllAlike (ys.map PyData.str) := by
  intro d hd d' hd'
  obtain ⟨z, _, rfl⟩ := List.mem_map.mp hd
  obtain ⟨z', _, rfl⟩ := List.mem_map.mp hd'
  rfl
theorem str_sortable (ys : List Str) : Sortable (ys.map PyData.str) := .inr fun d hd => by
  obtain ⟨z, _, rfl⟩ := List.mem_map.mp hd
  exact ⟨(fun h => by cases h), (fun xs h => by cases h)⟩
theorem each_str : ∀ {ys : List Str} {us : List Value}, Vals (ys.map V.str) us → EachIs (fun (v : Value) (z : Str) => RelV (.str z) v) us ys
  | [], us, r => by cases r; exact .nil
  | z :: ys, us, r => by cases r with | cons r t => exact .cons r (each_str t)
theorem vals_str {us : List Value} {ys : List Str} (e : EachIs (fun (v : Value) (z : Str) => RelV (.str z) v) us ys) : Vals (ys.map V.str) us := by
  induction e with
  | nil => exact .nil
  | cons r t ih => exact .cons r ih
/-- sorted(d), d's keys texts -/
def rSortDk : List V → Hp → VK → Prop := fun xs H Q => ∃ (a : Addr) (kvs : List (Key × V)) (ks : List Str), xs = [.ref a] ∧ Rd H a (.dK kvs) ∧ kvs.map (·.1) = ks.map Sum.inr ∧ ks.length < 1000 ∧ ∀ ys p, ys.Perm ks → sortedS ys = true → H p = none → Q (.ref p) (upd H p (.lst (ys.map V.str)))
theorem cr_sortDk (hcalm : X.calm = true) (hu : X.A.units + 64 < cLine) : CallR X (.builtin "sorted") rSortDk := by
  intro pins s σ H xs us Q I r h
  obtain ⟨a, kvs, ks, rfl, hd, hks, few, q⟩ := h
  rw [Vals.ref1 r]
  obtain ⟨z, lo, vs, rel, dd⟩ := dk_rd I.hok hd
  obtain ⟨ep, hat⟩ := dd.dictAt
  have kk : vs.map (·.1) = ks.map Sum.inr := rel.keys.symm.trans hks
  have len : vs.length = ks.length := by simpa using congrArg List.length kk
  have fits : vs.length ≤ sizeLine := by rw [len, sizeLine_eq]; omega
  refine Calls.call_function_entry kind_sorted plain_sorted entry_sorted (args_sorted1 _) ?_
  unfold Builtin.«sorted»
  refine wpAny_bind (m := checkCount "sorted" 1 1 _) (wpAny_pure ?_)
  refine wpAny_bind (PySem.W.kdu_collect (A := X.A.in1) (PySem.W.kdl_dict (knd := mixKind X.prog X.w) (kvs := vs) (ep := ep) lo) (I.ok.hd hcalm) hat fits fun h1 tk acc keep got => ?_)
  have la : acc.toList.length = ks.length := by rw [Array.length_toList, got.1, len]
  have tx : ∀ {us : List Value} {ks : List Str}, us.length = ks.length → (∀ (j : Nat) (v : Value) (k : Str), us[j]? = some v → ks[j]? = some k → RelV (.str k) v) → Vals (ks.map V.str) us := by
    intro us
    induction us with
    | nil =>
      intro ks l _
      cases ks with
      | nil => exact .nil
      | cons k ks => simp at l
    | cons u us ih =>
      intro ks l g
      cases ks with
      | nil => simp at l
      | cons k ks => exact .cons (g 0 u k rfl rfl) (ih (by simpa using l) fun j v k h1 h2 => g (j + 1) v k (by simpa using h1) (by simpa using h2))
  have r1 : Vals (ks.map V.str) acc.toList := tx la fun j v y e1 e2 => by
    obtain ⟨k, x, g1, g2⟩ := got.2 j v (by rw [← Array.getElem?_toList]; exact e1)
    have e3 : (vs.map (·.1))[j]? = some k := by rw [List.getElem?_map, g1]; rfl
    rw [kk, List.getElem?_map, e2] at e3
    have e5 : Sum.inr y = k := Option.some.inj e3
    subst e5
    obtain ⟨t, ev⟩ := Value.isStrOf_shape (x := y) (v := v) g2
    exact ⟨t, ev⟩
  have I1 : Inv X pins σ H { s with heap := h1, toks := tk } := I.kept keep
  have ea := each_str r1
  have lz : acc.toList.length ≤ sizeLine := by rw [la, ← len]; exact fits
  refine wpAny_bind (wpAny_newList ?_ lz)
  have hoL : (h1.push (seqObj "list" acc.toList.toArray 0)).get? h1.objs.size = some (seqObj "list" acc.toList.toArray 0) := Heap.get?_push_size _ rfl
  show wpAny _ _ _ _ _ { s with heap := h1.push (seqObj "list" acc.toList.toArray 0), toks := tk }
  refine wpAny_bind (wpAny_holding (list_sort_data (s := { s with heap := h1.push (seqObj "list" acc.toList.toArray 0), toks := tk }) (enc := PyData.str) hoL ea (ea.mono fun v z r => ?_) (str_alike ks) (str_sortable ks) (by rw [← la]; exact lz) (fun z hz => ?_) fun out lo eo => ?_))
  · obtain ⟨t, rfl⟩ := r
    exact ⟨[], Reads.str .., fun h => nomatch h⟩
  · show X.A.units + 1 + 1 + 0 < cLine
    omega
  obtain ⟨c, at1⟩ := sortedHeap_at (vs := acc.toList) (out := out.toArray) hoL
  have sz : ((ks.mergeSort (dataLe false PyData.str)).map V.str).length ≤ sizeLine := by
    rw [List.length_map, List.length_mergeSort, ← len]
    exact fits
  refine wpAny_pure ⟨_, rfl, .ref h1.objs.size, upd H h1.objs.size (.lst ((ks.mergeSort (dataLe false PyData.str)).map V.str)), I1.laid (t' := tk) (fun b u e => ?_) (Nat.le_refl _) ⟨sz, out, c, vals_str eo, at1⟩, rfl, q _ _ (List.mergeSort_perm _ _) (merge_sorted ks) (I1.hok.fresh (Nat.le_refl _))⟩
  have hb := Heap.lt_size e
  rw [sortedHeap_old (Nat.ne_of_lt hb) (by rw [size_push']; exact Nat.lt_succ_of_lt hb)]
  exact Heap.get?_push_of_some _ e
/-- sorted(xs), xs a list of texts -/
def rSortSk (K : PySem.W.Frag) : List V → Hp → VK → Prop := fun vs H Q => ∃ (a : Addr) (xs : List Str), vs = [V.ref a] ∧ SqL K H a (xs.map V.str) ∧ xs.length < 1000 ∧ ∀ (ys : List Str) (p : Addr), ys.Perm xs → sortedS ys = true → H p = none → Q (.ref p) (upd H p (.lst (ys.map V.str)))
theorem cr_sortSk (hu : X.A.units + 64 < cLine) : CallR X (.builtin "sorted") (rSortSk X.K) := by
  intro pins s σ H vs us Q I r h
  obtain ⟨a, xs, rfl, hs, few, q⟩ := h
  obtain ⟨its, rv, hl, hz⟩ := I.list hs
  rw [Vals.ref1 r]
  have ea := each_str rv
  refine sorted_data (enc := PyData.str) hl.isList ea (ea.mono fun v z r => ?_) (str_alike xs) (str_sortable xs) (by rw [List.length_map] at hz; exact hz) (fun z hz => ?_) fun out ho eo => ?_
  · obtain ⟨t, rfl⟩ := r
    exact ⟨[], Reads.str ..⟩
  · show X.A.units + 2 + 0 < cLine
    omega
  obtain ⟨ep, at1⟩ := sortedAll_at s.heap its out.toArray
  refine ⟨.ref _, upd H (s.heap.objs.size + 1) (.lst ((xs.mergeSort (dataLe false PyData.str)).map V.str)), I.laid (t' := s.toks) (fun _ _ => sortedAll_old) (Nat.le_succ _) ⟨?_, out, ep, vals_str eo, at1⟩, rfl, q _ _ (List.mergeSort_perm _ _) (merge_sorted xs) (I.hok.fresh (Nat.le_succ _))⟩
  rw [List.length_map, List.length_mergeSort]
  rw [List.length_map] at hz
  exact hz
end
end SX

set_option maxHeartbeats 4000000
/-! set(xs), xs a list of whole numbers: goes as the library's set of a tuple of such goes, over a list's iterator -/
namespace SI
open PySem PySem.Spec PyProof.Rows L2
section
variable {P : Program} {w : World} {A : Around} {E : Value → Shared → Prop} {s : Shared}
/-- what is known when the set has been filled -/
def Filled (w : World) (s : Shared) (ns : List Int) (h' : Heap) (c : Nat) : Prop :=
  SetR w h' s.heap.objs.size (fun j => decide (j ∈ ns)) c ∧ c ≤ ns.length ∧ ∀ b o, s.heap.get? b = some o → h'.get? b = some o
theorem call_set_listI {l : Addr} {items : Array Value} (ns : List Int) {Q : Value → Shared → Prop} (hh : A.handled = none) (hl : s.heap.IsList l items) (hit : IntsAre items.toList ns) (hb : ns.length + 1 < scanBound)
    (h : ∀ (h' : Heap) (tk c : Nat), Filled w s ns h' c → Q (.ref s.heap.objs.size) { s with heap := h', toks := tk }) :
    wpAny (model P w) A (call (.type "set") [.ref l]) Q E s := by
  have hisz : items.size = ns.length := by
    have q := IntsAre.length hit
    rw [Array.length_toList] at q
    exact q
  obtain ⟨c, tl, hmro⟩ := F.called_set.mro
  have hmade := F.called_set.made
  have hsub := F.called_set.sub
  refine wpAny_call (codeAny_of_tree ?_)
  show wpAny _ _ (callAny (.type "set") _) _ _ _
  refine wpAny_pure ⟨Code.quiet_builtin _ (by decide +kernel), codeAny_builtin F.entry_type_call ?_⟩
  rw [Around.under_plain (weight_type_call_type "set" [.ref l] []) rfl]
  have h1 := F.called_set.notType
  have h2 := F.called_set.canCreate
  have hct := F.typeCall_set_1 (.ref l)
  repeat (any_goals (first | assumption | wp_step))
  obtain ⟨ob, hob⟩ : ∃ ob : Obj, ob = { cls := .type "set", dict := none, data := .set #[] 0 (.fresh 0 0 (!w.params.followText "set-order")) } := ⟨_, rfl⟩
  refine codeAny_mono (code_set_led1 (.ref l) (E := E) (Q₁ := fun obj s₁ => obj = .ref s.heap.objs.size ∧ s₁ = { s with heap := s.heap.push ob }) ⟨rfl, by rw [hob]⟩) fun r s₁ hr => ?_
  cases r with
  | error e => exact hr
  | ok fl =>
    cases fl with
    | ret obj =>
      obtain ⟨rfl, rfl⟩ := hr
      have hS : (s.heap.push ob).get? s.heap.objs.size = some ob := Heap.get?_push_size _ (by rw [hob]; rfl)
      have hT : Shared.TypeIs { s with heap := s.heap.push ob } (.ref s.heap.objs.size) "set" := ⟨_, hS, by rw [hob]⟩
      have hli := F.called_set.init.lookup
      have hbi := F.called_set.init.bind (.ref s.heap.objs.size)
      repeat (any_goals (first | assumption | wp_step))
      refine codeAny_mono (codeAny_call_builtin (R := wants (fun r s₂ => r = .none ∧ ∃ h' tk c, s₂ = { s with heap := h', toks := tk } ∧ Filled w s ns h' c) E) F.called_set.init.plain F.entry_set_init (check_set_init_1 hT ?_)) fun r₂ s₂ hr₂ => ?_
      · obtain ⟨ol, hol, hcl, nl, hdl⟩ := hl
        obtain ⟨ocls, odict, odata, oslots⟩ := ol
        simp only at hcl hdl
        subst hcl; subst hdl
        have hol' : (s.heap.push ob).get? l = some { cls := .type "list", dict := odict, data := .seq items nl, slots := oslots } := Heap.get?_push_of_some _ hol
        have hsls := F.sub_list_set
        have hslf := F.sub_list_frozenset
        have hne : (Value.type "list" == Value.type "dict") = false := by decide
        have hl1 : (s.heap.push ob).IsList l items := ⟨_, hol', rfl, nl, rfl⟩
        unfold Builtin.«set.__init__» noKeywords Builtin.Frozenset.updateFrom
        generalize hPI : pyIter = PI
        subst hob
        wp_walk
        subst hPI
        generalize hob : ({ cls := .type "set", dict := none, data := .set #[] 0 (.fresh 0 0 (!w.params.followText "set-order")) } : Obj) = ob at hS hT hol' hl1 ⊢
        refine wpAny_pyIter_list hl1 ?_
        refine wpAny_bind (wpAny_runValue ?_)
        have hlS : l < s.heap.objs.size := Heap.lt_size hol
        have hh3 : A.in1.in1.in1.handled = none := by simp [hh]
        have hz1 : (s.heap.push ob).objs.size = s.heap.objs.size + 1 := Heap.size_push ..
        have hval : ∀ (i : Nat) (v : Value), items[i]? = some v → ∃ k t, ns[i]? = some k ∧ v = .int k t := fun i v hv => by
          have hi : i < ns.length := by rw [← hisz]; exact (Array.getElem?_eq_some_iff.mp hv).1
          obtain ⟨t, e⟩ := PyProof.Rows.IntsAre.int_at hit i v (by rw [Array.getElem?_toList]; exact hv)
          refine ⟨ns[i], t, List.getElem?_eq_getElem hi, ?_⟩
          rw [e, List.getD_eq_getElem?_getD, List.getElem?_eq_getElem hi] <;> rfl
        refine set_update_ints ((Walks.list hh3 _ l (by rw [hz1]; exact Nat.ne_of_lt (Nat.lt_succ_of_lt hlS)) items).toS) s.heap.objs.size ?hSf ns hisz hb hval (items.size - 0) 0 _ (by omega) (Nat.zero_le _)
          ⟨⟨_, Heap.get?_push_size _ rfl, rfl, rfl⟩, (hl1.push _)⟩ ?hS0 ?hR
        case hSf =>
          rw [hz1]
          simp only [List.mem_cons, List.mem_singleton, List.not_mem_nil, or_false, not_or]
          exact ⟨Nat.ne_of_lt (Nat.lt_succ_self _), Nat.ne_of_gt hlS⟩
        case hS0 =>
          refine ⟨0, Nat.le_refl 0, setR_new_at ?_⟩
          rw [hob]
          exact Heap.get?_push_of_some _ hS
        case hR =>
          intro s' c' hm hc' hS'
          obtain ⟨h', g2, d', tk', os'⟩ := s'
          have eg : g2 = s.gens := hm.gens
          have ed : d' = s.drawn := hm.drawn
          have eo : os' = s.os := hm.os
          subst eg; subst ed; subst eo
          show wpAny _ _ _ _ _ _
          refine wpAny_pure ?_
          show wpAny _ _ (ret Value.none) _ _ _
          rw [hisz] at hc'
          refine wpAny_pure ⟨rfl, h', tk', c', rfl, hS', hc', fun b o e => ?_⟩
          have hb0 : b < s.heap.objs.size := Heap.lt_size e
          refine hm.heap b o ?_ (Heap.get?_push_of_some _ (Heap.get?_push_of_some _ e))
          rw [hz1]
          simp only [List.mem_cons, List.mem_singleton, List.not_mem_nil, or_false, not_or]
          exact ⟨Nat.ne_of_lt hb0, Nat.ne_of_lt (Nat.lt_succ_of_lt hb0)⟩
      · cases r₂ with
        | error e => exact hr₂
        | ok fl₂ =>
          cases fl₂ with
          | ret r =>
            obtain ⟨rfl, h', tk, c', rfl, hF⟩ := hr₂
            repeat (any_goals (first | assumption | wp_step))
            exact h _ _ _ hF
          | _ => exact hr₂.elim
    | _ => exact hr.elim
end
section
variable {X : Cx}
def rSetL (K : PySem.W.Frag) (w : World) : List V → Hp → VK → Prop := fun xs H Q => ∃ (l : Addr) (ns : List Int), xs = [V.ref l] ∧ SqL K H l (ns.map V.int) ∧ ns.length < 60 ∧
  ∀ p c, H p = none → c ≤ ns.length → Q (.ref p) (upd H p (SetO w p (fun j => decide (j ∈ ns)) c))
theorem cr_setL (hc : X.calm = true) : CallR X (.type "set") (rSetL X.K X.w) := by
  intro pins s σ H xs us Q I r h
  obtain ⟨l, ns, rfl, hl, hf, q⟩ := h
  rw [Vals.ref1 r]
  obtain ⟨its, rv, pl, hz⟩ := I.list hl
  refine call_set_listI ns (I.ok.hd hc) pl.isList (by simpa using rv.ints) (by unfold scanBound; omega) fun h' tk c ⟨R, hcn, k⟩ => ?_
  exact ⟨.ref s.heap.objs.size, _, I.laid (t' := tk) k (Nat.le_refl _) (setO_new R), rfl, q _ c (I.hok.fresh (Nat.le_refl _)) hcn⟩
end
end SI

set_option maxHeartbeats 4000000
/-! set(list of texts), sorted of a set of texts told in order, tuple(list) as a tuple that is known to have no dict, dict(such a tuple of pairs) -/
namespace SX
open PySem PySem.W PySem.Spec PyProof.Rows L2
/-- the texts, each once, as a set gets them -/
def seenS (zs : List Str) : List Str := zs.foldl more []
theorem seen_snoc (zs : List Str) (z : Str) : seenS (zs ++ [z]) = more (seenS zs) z := by
  unfold seenS
  rw [List.foldl_append]
  rfl
theorem more_mem {zs : List Str} {z x : Str} : x ∈ more zs z ↔ x ∈ zs ∨ x = z := by
  unfold more
  split
  · rename_i h
    exact ⟨.inl, fun q => q.elim id fun e => by rw [e]; exact h⟩
  · rw [List.mem_cons]
    exact ⟨fun q => q.symm, fun q => q.symm⟩
theorem more_nd {zs : List Str} {z : Str} (h : zs.Nodup) : (more zs z).Nodup := by
  unfold more
  split
  · exact h
  · rename_i h'
    exact List.nodup_cons.mpr ⟨h', h⟩
theorem more_len (zs : List Str) (z : Str) : (more zs z).length ≤ zs.length + 1 := by
  unfold more
  split
  · exact Nat.le_succ _
  · exact Nat.le_refl _
theorem fold_more : ∀ (zs a : List Str), (∀ x, x ∈ zs.foldl more a ↔ x ∈ a ∨ x ∈ zs) ∧ (a.Nodup → (zs.foldl more a).Nodup) ∧ (zs.foldl more a).length ≤ a.length + zs.length
  | [], a => ⟨fun x => ⟨.inl, fun q => q.elim id fun e => nomatch e⟩, id, Nat.le_refl _⟩
  | z :: zs, a => by
    obtain ⟨h1, h2, h3⟩ := fold_more zs (more a z)
    refine ⟨fun x => ?_, fun h => h2 (more_nd h), ?_⟩
    · show x ∈ zs.foldl more (more a z) ↔ _
      rw [h1, more_mem, List.mem_cons, or_assoc]
    · have := more_len a z
      show (zs.foldl more (more a z)).length ≤ _
      rw [List.length_cons]
      omega
theorem seen_mem {zs : List Str} {x : Str} : x ∈ seenS zs ↔ x ∈ zs := by
  unfold seenS
  rw [(fold_more zs []).1]
  exact ⟨fun q => q.elim (fun e => nomatch e) id, .inr⟩
theorem seen_nd (zs : List Str) : (seenS zs).Nodup := (fold_more zs []).2.1 .nil
theorem seen_len (zs : List Str) : (seenS zs).length ≤ zs.length := by
  have := (fold_more zs []).2.2
  rw [List.length_nil, Nat.zero_add] at this
  exact this
theorem str_at : ∀ {ns : List Str} {us : List Value}, Vals (ns.map V.str) us → ∀ (i : Nat) (v : Value), us[i]? = some v → ∃ k t, ns[i]? = some k ∧ v = .str k t
  | [], us, r, i, v, h => by
    cases r
    simp at h
  | z :: ns, us, r, i, v, h => by
    cases r with
    | cons r t =>
      obtain ⟨tk, rfl⟩ := r
      cases i with
      | zero =>
        cases h
        exact ⟨z, tk, rfl, rfl⟩
      | succ i => exact str_at t i v (by simpa using h)
section
variable {P : Program} {w : World} {A : Around} {E : Value → Shared → Prop} {s : Shared}
theorem set_update_texts {I : Addr} {fp wr : List Addr} {G : Array GenState → Array GenState → Prop} {n : Nat} {Pv : Nat → Value → Prop} {St : Nat → Shared → Prop} {R : Result → Shared → Prop}
    (W : WalksS P w A.in1 I fp wr G n Pv St) (S : Addr) (hSf : S ∉ fp) (zs : List Str) (hn : n = zs.length) (hb : zs.length + 1 < scanBound) (hval : ∀ i v, Pv i v → ∃ k t, zs[i]? = some k ∧ v = .str k t) :
    ∀ (k i : Nat) (s : Shared), n - i = k → i ≤ n → St i s → TSet P w s.heap S (seenS (zs.take i)) →
      (∀ s', Moved (S :: wr) G s s' → TSet P w s'.heap S (seenS zs) → R (.ok (.ret .none)) s') →
      codeAny (model P w) A (.builtin "set.update.loop" ⟨[.ref S, .ref I], []⟩) R s := by
  have hSw : S ∉ wr := fun h => hSf (W.sub _ h)
  have hsub : ∀ b ∈ wr, b ∈ S :: wr := fun b hb => List.mem_cons_of_mem _ hb
  intro k
  induction k with
  | zero =>
    intro i s hk' hi hst hS hR
    have hin : i = n := by omega
    subst hin
    refine codeAny_builtin F.entry_set_update_loop ?_
    rw [Around.under_plainId F.plain_set_update_loop _]
    show wpAny _ A.in1 (pyNext (.ref I) >>= _) _ _ s
    refine wpAny_bind (W.done s _ _ hst fun s' hm => ?_)
    show wpAny _ A.in1 (ret Value.none) _ _ s'
    have e : zs.take i = zs := List.take_of_length_le (by omega)
    rw [e] at hS
    exact wpAny_pure (hR s' (hm.mono hsub) (hS.at fun o e => hm.heap S o hSw e))
  | succ k ih =>
    intro i s hk' hi hst hS hR
    have hlt : i < n := by omega
    refine codeAny_builtin F.entry_set_update_loop ?_
    rw [Around.under_plainId F.plain_set_update_loop _]
    show wpAny _ A.in1 (pyNext (.ref I) >>= _) _ _ s
    refine wpAny_bind (W.item i s _ _ hlt hst fun v s' hP hst' hm => ?_)
    obtain ⟨z, t, hz, rfl⟩ := hval i v hP
    have hS' : TSet P w s'.heap S (seenS (zs.take i)) := hS.at fun o e => hm.heap S o hSw e
    show wpAny _ A.in1 (holding [Value.str z t] (setAdd S (.str z t)) >>= _) _ _ s'
    refine wpAny_bind (wpAny_holding ?_)
    unfold setAdd
    refine wpAny_holding ?_
    refine wpAny_bind ((strKind P w).pyHash (k := z) (strKind_is P w z t) ?_)
    have room : (seenS (zs.take i)).length + 1 < scanBound := by
      have := seen_len (zs.take i)
      rw [List.length_take] at this
      omega
    refine add_hashed (s := { s' with toks := s'.toks + 1 }) hS' room fun b h' hsb hS2 => ?_
    have hS3 : TSet P w h' S (seenS (zs.take (i + 1))) := by
      rw [List.take_add_one, hz]
      show TSet P w h' S (seenS (zs.take i ++ [z]))
      rw [seen_snoc]
      exact hS2
    refine wpAny_pure ⟨plainId_quiet F.plain_set_update_loop _, ih (i + 1) _ (by omega) hlt (W.frame _ s' _ _ hst' (Nat.le_succ _) fun b hb o e => ?_) hS3 fun s'' hm'' hS'' => ?_⟩
    · rw [hsb.2 b (fun h : b = S => hSf (by rw [← h]; exact hb))]; exact e
    · refine hR s'' (Moved.trans W.gtrans ((hm.mono hsub).then_heap (Nat.le_succ _) fun b o hb e => ?_) hm'') hS''
      rw [hsb.2 b (fun h : b = S => hb (by rw [h]; exact List.mem_cons_self))]; exact e
/-- what is known when the set has been filled -/
def FilledS (P : Program) (w : World) (s : Shared) (ns : List Str) (h' : Heap) : Prop := TSet P w h' s.heap.objs.size (seenS ns) ∧ ∀ b o, s.heap.get? b = some o → h'.get? b = some o
theorem call_set_listS {l : Addr} {items : Array Value} (ns : List Str) {Q : Value → Shared → Prop} (hh : A.handled = none) (hl : s.heap.IsList l items) (hit : Vals (ns.map V.str) items.toList) (hb : ns.length + 1 < scanBound)
    (h : ∀ (h' : Heap) (tk : Nat), FilledS P w s ns h' → Q (.ref s.heap.objs.size) { s with heap := h', toks := tk }) :
    wpAny (model P w) A (call (.type "set") [.ref l]) Q E s := by
  have hisz : items.size = ns.length := by
    have q := hit.length
    rw [List.length_map, Array.length_toList] at q
    exact q.symm
  obtain ⟨c, tl, hmro⟩ := F.called_set.mro
  have hmade := F.called_set.made
  have hsub := F.called_set.sub
  refine wpAny_call (codeAny_of_tree ?_)
  show wpAny _ _ (callAny (.type "set") _) _ _ _
  refine wpAny_pure ⟨Code.quiet_builtin _ (by decide +kernel), codeAny_builtin F.entry_type_call ?_⟩
  rw [Around.under_plain (weight_type_call_type "set" [.ref l] []) rfl]
  have h1 := F.called_set.notType
  have h2 := F.called_set.canCreate
  have hct := F.typeCall_set_1 (.ref l)
  repeat (any_goals (first | assumption | wp_step))
  obtain ⟨ob, hob⟩ : ∃ ob : Obj, ob = { cls := .type "set", dict := none, data := .set #[] 0 (.fresh 0 0 (!w.params.followText "set-order")) } := ⟨_, rfl⟩
  refine codeAny_mono (code_set_led1 (.ref l) (E := E) (Q₁ := fun obj s₁ => obj = .ref s.heap.objs.size ∧ s₁ = { s with heap := s.heap.push ob }) ⟨rfl, by rw [hob]⟩) fun r s₁ hr => ?_
  cases r with
  | error e => exact hr
  | ok fl =>
    cases fl with
    | ret obj =>
      obtain ⟨rfl, rfl⟩ := hr
      have hS : (s.heap.push ob).get? s.heap.objs.size = some ob := Heap.get?_push_size _ (by rw [hob]; rfl)
      have hT : Shared.TypeIs { s with heap := s.heap.push ob } (.ref s.heap.objs.size) "set" := ⟨_, hS, by rw [hob]⟩
      have hli := F.called_set.init.lookup
      have hbi := F.called_set.init.bind (.ref s.heap.objs.size)
      repeat (any_goals (first | assumption | wp_step))
      refine codeAny_mono (codeAny_call_builtin (R := wants (fun r s₂ => r = .none ∧ ∃ h' tk, s₂ = { s with heap := h', toks := tk } ∧ FilledS P w s ns h') E) F.called_set.init.plain F.entry_set_init (check_set_init_1 hT ?_)) fun r₂ s₂ hr₂ => ?_
      · obtain ⟨ol, hol, hcl, nl, hdl⟩ := hl
        obtain ⟨ocls, odict, odata, oslots⟩ := ol
        simp only at hcl hdl
        subst hcl; subst hdl
        have hol' : (s.heap.push ob).get? l = some { cls := .type "list", dict := odict, data := .seq items nl, slots := oslots } := Heap.get?_push_of_some _ hol
        have hsls := F.sub_list_set
        have hslf := F.sub_list_frozenset
        have hne : (Value.type "list" == Value.type "dict") = false := by decide
        have hl1 : (s.heap.push ob).IsList l items := ⟨_, hol', rfl, nl, rfl⟩
        unfold Builtin.«set.__init__» noKeywords Builtin.Frozenset.updateFrom
        generalize hPI : pyIter = PI
        subst hob
        wp_walk
        subst hPI
        generalize hob : ({ cls := .type "set", dict := none, data := .set #[] 0 (.fresh 0 0 (!w.params.followText "set-order")) } : Obj) = ob at hS hT hol' hl1 ⊢
        refine wpAny_pyIter_list hl1 ?_
        refine wpAny_bind (wpAny_runValue ?_)
        have hlS : l < s.heap.objs.size := Heap.lt_size hol
        have hh3 : A.in1.in1.in1.handled = none := by simp [hh]
        have hz1 : (s.heap.push ob).objs.size = s.heap.objs.size + 1 := Heap.size_push ..
        have hval : ∀ (i : Nat) (v : Value), items[i]? = some v → ∃ k t, ns[i]? = some k ∧ v = .str k t := fun i v hv => str_at hit i v (by rw [Array.getElem?_toList]; exact hv)
        refine set_update_texts ((Walks.list hh3 _ l (by rw [hz1]; exact Nat.ne_of_lt (Nat.lt_succ_of_lt hlS)) items).toS) s.heap.objs.size ?hSf ns hisz hb hval (items.size - 0) 0 _ (by omega) (Nat.zero_le _)
          ⟨⟨_, Heap.get?_push_size _ rfl, rfl, rfl⟩, (hl1.push _)⟩ ?hS0 ?hR
        case hSf =>
          rw [hz1]
          simp only [List.mem_cons, List.mem_singleton, List.not_mem_nil, or_false, not_or]
          exact ⟨Nat.ne_of_lt (Nat.lt_succ_self _), Nat.ne_of_gt hlS⟩
        case hS0 =>
          show TSet P w _ _ []
          refine (fresh_set (h := s.heap) P w).at fun o e => ?_
          rw [hob] at e
          exact Heap.get?_push_of_some _ e
        case hR =>
          intro s' hm hS'
          obtain ⟨h', g2, d', tk', os'⟩ := s'
          have eg : g2 = s.gens := hm.gens
          have ed : d' = s.drawn := hm.drawn
          have eo : os' = s.os := hm.os
          subst eg; subst ed; subst eo
          show wpAny _ _ _ _ _ _
          refine wpAny_pure ?_
          show wpAny _ _ (ret Value.none) _ _ _
          refine wpAny_pure ⟨rfl, h', tk', rfl, hS', fun b o e => ?_⟩
          have hb0 : b < s.heap.objs.size := Heap.lt_size e
          refine hm.heap b o ?_ (Heap.get?_push_of_some _ (Heap.get?_push_of_some _ e))
          rw [hz1]
          simp only [List.mem_cons, List.mem_singleton, List.not_mem_nil, or_false, not_or]
          exact ⟨Nat.ne_of_lt hb0, Nat.ne_of_lt (Nat.lt_succ_of_lt hb0)⟩
      · cases r₂ with
        | error e => exact hr₂
        | ok fl₂ =>
          cases fl₂ with
          | ret r =>
            obtain ⟨rfl, h', tk, rfl, hF⟩ := hr₂
            repeat (any_goals (first | assumption | wp_step))
            exact h _ _ hF
          | _ => exact hr₂.elim
    | _ => exact hr.elim
end
section
variable {X : Cx}
/-- set(xs), xs a list of texts -/
def rSetLS (P : Program) (w : World) (K : PySem.W.Frag) : List V → Hp → VK → Prop := fun xs H Q => ∃ (l : Addr) (ns : List Str), xs = [V.ref l] ∧ SqL K H l (ns.map V.str) ∧ ns.length < 60 ∧
  ∀ p, H p = none → Q (.ref p) (upd H p (SetSO P w p (seenS ns)))
theorem cr_setLS (hc : X.calm = true) : CallR X (.type "set") (rSetLS X.prog X.w X.K) := by
  intro pins s σ H xs us Q I r h
  obtain ⟨l, ns, rfl, hl, hf, q⟩ := h
  rw [Vals.ref1 r]
  obtain ⟨its, rv, pl, hz⟩ := I.list hl
  refine call_set_listS ns (I.ok.hd hc) pl.isList (by simpa using rv) (by unfold scanBound; omega) fun h' tk ⟨R, k⟩ => ?_
  exact ⟨.ref s.heap.objs.size, _, I.laid (t' := tk) k (Nat.le_refl _) (setSO_new R), rfl, q _ (I.hok.fresh (Nat.le_refl _))⟩
/-- sorted of a set of texts: its texts, each once, in order -/
def rSortSo (P : Program) (w : World) : List V → Hp → VK → Prop := fun vs H Q => ∃ (a : Addr) (zs : List Str), vs = [V.ref a] ∧ H a = some (SetSO P w a zs) ∧ ∀ (ys : List Str) (p : Addr), ys.Perm zs → sortedS ys = true → H p = none → Q (.ref p) (upd H p (.lst (ys.map V.str)))
theorem cr_sortSo (hc : X.calm = true) (hu : X.A.units + 64 < cLine) : CallR X (.builtin "sorted") (rSortSo X.prog X.w) := by
  intro pins s σ H vs us Q I r h
  obtain ⟨a, zs, rfl, ha, q⟩ := h
  obtain ⟨o, es, ep, t, ho, hex, hd, g, pm, nd, hb, hf, hr, hl⟩ := setSO_get I ha
  rw [Vals.ref1 r]
  refine Calls.call_function_entry kind_sorted plain_sorted entry_sorted (args_sorted1 _) ?_
  unfold Builtin.«sorted»
  refine wpAny_bind (m := checkCount "sorted" 1 1 _) (wpAny_pure ?_)
  refine wpAny_bind (collect_set (A := X.A.in1) (I.ok.hd hc) ⟨o, ho, hex.1, hd⟩ hf hb hr hl fun s1 us k1 hz g1 o1 pe => ?_)
  -- the texts as they come
  have tx : ∀ {us : List Value}, (∀ v ∈ us, ∃ z t, v = Value.str z t) → ∃ ys : List Str, Vals (ys.map V.str) us ∧ us.map (fun v => txtOf (0, v)) = ys := by
    intro us
    induction us with
    | nil => exact fun _ => ⟨[], .nil, rfl⟩
    | cons v us ih =>
      intro h
      obtain ⟨z, t, rfl⟩ := h v List.mem_cons_self
      obtain ⟨ys, h1, h2⟩ := ih fun u hu => h u (List.mem_cons_of_mem _ hu)
      exact ⟨z :: ys, .cons ⟨t, rfl⟩ h1, by rw [List.map_cons, h2]; rfl⟩
  obtain ⟨ys, r1, e1⟩ := tx (us := us) fun v hv => by
    obtain ⟨e, he, rfl⟩ := List.mem_map.mp (pe.mem_iff.mp hv)
    obtain ⟨z, t, h1, _⟩ := g e he
    exact ⟨z, t, h1⟩
  have p1 : ys.Perm zs := by
    rw [← e1]
    refine (pe.map _).trans ?_
    rw [List.map_map]
    exact pm
  have lz : us.length ≤ sizeLine := by
    rw [pe.length_eq, List.length_map, Array.length_toList]
    exact fits_of_scanBound hb
  refine wpAny_bind (wpAny_newList ?_ lz)
  have hoL : (s1.heap.push (seqObj "list" us.toArray 0)).get? s1.heap.objs.size = some (seqObj "list" us.toArray 0) := Heap.get?_push_size _ rfl
  have ev : ∀ {ys : List Str} {us : List Value}, Vals (ys.map V.str) us → EachIs (fun (v : Value) (z : Str) => RelV (.str z) v) us ys := by
    intro ys
    induction ys with
    | nil => intro us r; cases r; exact .nil
    | cons z ys ih => intro us r; cases r with | cons r t => exact .cons r (ih t)
  have ve : ∀ {us : List Value} {ys : List Str}, EachIs (fun (v : Value) (z : Str) => RelV (.str z) v) us ys → Vals (ys.map V.str) us := by
    intro us ys e
    induction e with
    | nil => exact .nil
    | cons r t ih => exact .cons r ih
  refine wpAny_bind (wpAny_holding (list_sort_data (s := { s1 with heap := s1.heap.push (seqObj "list" us.toArray 0) }) (enc := PyData.str) hoL (ev r1) ((ev r1).mono fun v z r => ?_) ?_ ?_ (by rw [← (ev r1).length]; exact lz) (fun z hz => ?_) fun out lo eo => ?_))
  · obtain ⟨t, rfl⟩ := r
    exact ⟨[], Reads.str .., fun h => nomatch h⟩
  · intro d hd d' hd'
    obtain ⟨z, _, rfl⟩ := List.mem_map.mp hd
    obtain ⟨z', _, rfl⟩ := List.mem_map.mp hd'
    rfl
  · refine .inr fun d hd => ?_
    obtain ⟨z, _, rfl⟩ := List.mem_map.mp hd
    exact ⟨(fun h => by cases h), (fun xs h => by cases h)⟩
  · show X.A.units + 1 + 1 + 0 < cLine
    omega
  obtain ⟨c, at1⟩ := sortedHeap_at (vs := us) (out := out.toArray) hoL
  have keep : ∀ b u, s.heap.get? b = some u → (sortedHeap (s1.heap.push (seqObj "list" us.toArray 0)) s1.heap.objs.size us out.toArray).get? b = some u := fun b u e => by
    have q := k1 b u e
    have hlt := Heap.lt_size q
    rw [sortedHeap_old (Nat.ne_of_lt hlt) (by rw [size_push']; exact Nat.lt_succ_of_lt hlt)]
    exact Heap.get?_push_of_some _ q
  have pp : (ys.mergeSort (dataLe false PyData.str)).Perm zs := (List.mergeSort_perm _ _).trans p1
  have hn : H s1.heap.objs.size = none := I.hok.fresh hz
  have hlen : ((ys.mergeSort (dataLe false PyData.str)).map V.str).length ≤ sizeLine := by
    rw [List.length_map, List.length_mergeSort, ← (ev r1).length]
    exact lz
  have J : Inv X pins σ (upd H s1.heap.objs.size (.lst ((ys.mergeSort (dataLe false PyData.str)).map V.str))) { s with heap := sortedHeap (s1.heap.push (seqObj "list" us.toArray 0)) s1.heap.objs.size us out.toArray, gens := s1.gens, drawn := s1.drawn, toks := s1.toks } :=
    I.call (ch := []) (Un.laid keep hz hn) (I.hok.laid keep hz ⟨hlen, out, c, ve eo, at1⟩) (by rw [g1]; exact I.bare) (fun _ z => nomatch z)
  refine wpAny_pure ⟨_, rfl, ?_⟩
  have e : ({ s1 with heap := sortedHeap (s1.heap.push (seqObj "list" us.toArray 0)) s1.heap.objs.size us out.toArray } : Shared) = { s with heap := sortedHeap (s1.heap.push (seqObj "list" us.toArray 0)) s1.heap.objs.size us out.toArray, gens := s1.gens, drawn := s1.drawn, toks := s1.toks } := by
    cases s1
    cases s
    cases o1
    rfl
  show ∃ x H', Inv X pins σ H' ({ s1 with heap := sortedHeap (s1.heap.push (seqObj "list" us.toArray 0)) s1.heap.objs.size us out.toArray } : Shared) ∧ _
  rw [e]
  exact ⟨.ref _, _, J, rfl, q _ _ pp (merge_sorted ys) hn⟩
/-- a tuple that is known to have no dict -/
def FzT (H : Hp) (a : Addr) (xs : List V) : Prop := ∃ o : Obj, H a = some (.frz o (.tup xs)) ∧ o.cls = .type "tuple" ∧ o.dict = none
theorem FzT.sq {K : PySem.W.Frag} {H : Hp} {a : Addr} {xs : List V} (h : FzT H a xs) : SqT K H a xs := by
  obtain ⟨o, e, _⟩ := h
  exact .inl (.inr ⟨o, e⟩)
theorem FzT.of {H H' : Hp} {a : Addr} {xs : List V} (k : ∀ o, H a = some o → H' a = some o) (h : FzT H a xs) : FzT H' a xs := by
  obtain ⟨o, e, r⟩ := h
  exact ⟨o, k _ e, r⟩
/-- tuple(xs) of a list -/
def rTupF (K : PySem.W.Frag) : List V → Hp → VK → Prop := fun xs H Q => ∃ p ys, xs = [.ref p] ∧ SqL K H p ys ∧ ∀ (l : Addr) (o : Obj), H l = none → o.cls = .type "tuple" → o.dict = none → Q (.ref l) (upd H l (.frz o (.tup ys)))
theorem cr_tupF : CallR X (.type "tuple") (rTupF X.K) := by
  intro pins s σ H xs us Q I r h
  obtain ⟨p, ys, rfl, hq, q⟩ := h
  obtain ⟨u, rfl, rx⟩ := vals1 r
  cases rx
  obtain ⟨its, r', pl, hz⟩ := I.list hq
  have hlen := r'.length
  refine call_tuple_list pl.isList (fun h' kp => ?_) (by simp only [List.size_toArray] <;> omega)
  have I1 : Inv X pins σ H { s with heap := h' } := I.kept (t' := s.toks) kp
  have I2 : Inv X pins σ (upd H h'.objs.size (.frz { cls := .type "tuple", data := .seq its.toArray } (.tup ys))) { s with heap := h'.push { cls := .type "tuple", data := .seq its.toArray } } :=
    I1.laid (t' := s.toks) (fun b o e => Heap.get?_push_of_some _ e) (Nat.le_refl _) (show ObjOk X.prog X.w _ _ _ (.frz _ (.tup ys)) from ⟨Heap.get?_push_size _ rfl, hz, its, r', IsTup.new _ _⟩)
  exact ⟨.ref h'.objs.size, _, I2, rfl, q _ _ (I1.hok.fresh (Nat.le_refl _)) rfl rfl⟩
theorem pairs_vals {pins : List (Addr × Obj)} {σ : L2.St} {H : Hp} {s : Shared} (I : Inv X pins σ H s) : ∀ {ps : List Addr} {kvs : List (Key × V)}, Paired (fun p kv => SqT X.K H p [kV kv.1, kv.2]) ps kvs →
    ∃ (prs : List (Key × Value)) (us : List (Value × Value)), KV kvs prs ∧ prs.length = ps.length ∧ us.length = ps.length ∧ ∀ (j : Nat) (k v : Value), us[j]? = some (k, v) → ∃ (b : Addr) (key : Key), ps[j]? = some b ∧ IsTup s.heap b #[k, v] ∧ prs[j]? = some (key, v) ∧ keyIs key k = true
  | _, _, .nil => ⟨[], [], .nil, rfl, rfl, fun j k v e => by simp at e⟩
  | _, _, .cons (a := p) (b := kv) h t => by
    obtain ⟨prs, us, r, hl, hl2, hp⟩ := pairs_vals I t
    obtain ⟨its, rv, ht, _⟩ := I.tuple h
    obtain ⟨u, y, ei, ru, ry⟩ := vals2 rv
    subst ei
    refine ⟨(kv.1, y) :: prs, (u, y) :: us, .cons ⟨rfl, ry⟩ r, by rw [List.length_cons, List.length_cons, hl], by rw [List.length_cons, List.length_cons, hl2], fun j k v e => ?_⟩
    cases j with
    | zero =>
      have e' : (u, y) = (k, v) := Option.some.inj e
      cases e'
      exact ⟨p, kv.1, rfl, ht, rfl, kV_is (P := X.prog) (w := X.w) ru⟩
    | succ j =>
      obtain ⟨b, key, e1, e2, e3, e4⟩ := hp j k v (by simpa using e)
      exact ⟨b, key, by simpa using e1, e2, by simpa using e3, e4⟩
/-- dict(t), t a tuple of pairs that is known to have no dict -/
def rDictT (K : PySem.W.Frag) : List V → Hp → VK → Prop := fun xs H Q => ∃ (a : Addr) (ps : List Addr) (kvs : List (Key × V)), xs = [.ref a] ∧ FzT H a (ps.map V.ref) ∧ Paired (fun p kv => SqT K H p [kV kv.1, kv.2]) ps kvs ∧
    ∀ p, H p = none → Q (.ref p) (upd H p (.dK (mergeK [] kvs)))
theorem cr_dictT (hcalm : X.calm = true) : CallR X (.type "dict") (rDictT X.K) := by
  intro pins s σ H xs us Q I r q
  obtain ⟨a, ps, kvs, rfl, ⟨o, ha, hc, hd⟩, hp, q⟩ := q
  obtain ⟨u, rfl, rx⟩ := vals1 r
  cases rx
  obtain ⟨ho, hz, its, rv, o2, ho2, hc2, n, hdat⟩ := I.hok a _ ha
  rw [ho] at ho2
  cases ho2
  have ei := refs_at rv
  subst ei
  rw [List.length_map] at hz
  obtain ⟨prs, vps, rel, hl, hl2, hpr⟩ := pairs_vals I hp
  have PA := PairArg.tuple (prog := X.prog) (w := X.w) a (ps.map Value.ref).toArray (fun j => ps.getD j 0) vps
  refine PySem.call_dict_pairs (knd := mixKind X.prog X.w) (kvs := prs) PA (I.ok.hd hcalm) ⟨⟨o, n, ho, hc, hd, hdat⟩, ?_, fun j k v e => ?_⟩ ⟨?_, fun i key v e => ?_⟩ (by rw [hl2]; exact hz) fun h' tk hd' k => ?_
  · simp [hl2]
  · obtain ⟨b, key, e1, e2, _⟩ := hpr j k v e
    have e3 : ps.getD j 0 = b := by rw [List.getD_eq_getElem?_getD, e1]; rfl
    refine ⟨by simp [e1], .inl ?_⟩
    show s.heap.IsTuple (ps.getD j 0) #[k, v]
    rw [e3]
    exact e2
  · rw [hl, hl2]
  · obtain ⟨b, key', _, _, e3, e4⟩ := hpr i key v e
    exact ⟨key', e3, e4⟩
  · have hm : (s.heap.objs.size == sysModules) = false := beq_eq_false_iff_ne.mpr (Nat.ne_of_gt I.big)
    have hlen : (mergeK [] kvs).length ≤ sizeLine := by
      refine Nat.le_trans (length_mergeK kvs []) ?_
      rw [List.length_nil, Nat.zero_add, rel.length, hl]
      exact hz
    exact ⟨.ref s.heap.objs.size, upd H s.heap.objs.size (.dK (mergeK [] kvs)), I.laid (t' := tk) (fun b o e => k b o (fun z => nomatch z) e) (Nat.le_refl _) (show ObjOk X.prog X.w _ _ _ (.dK (mergeK [] kvs)) from ⟨hlen, hm, merged [] prs, KV.merge rel .nil, hd'⟩), rfl, q _ (I.hok.fresh (Nat.le_refl _))⟩
end
end SX

namespace My
open PySem PySem.Spec PyProof.Rows L2 GX GxR
theorem sIx_nat (n d j : Nat) : HT.sIx n d (some (j : Int)) = min j n := by
  show (if (j : Int) < 0 then ((j : Int) + (n : Int)).toNat else min (j : Int).toNat n) = min j n
  rw [if_neg (by omega), Int.toNat_natCast]
theorem cut_drop (xs : List V) (j : Nat) : cutV xs (some (j : Int)) none = xs.drop j := by
  unfold cutV
  rw [HT.sIx_none, sIx_nat]
  by_cases h : j ≤ xs.length
  · rw [Nat.min_eq_left h, List.take_of_length_le (by rw [List.length_drop]; exact Nat.le_refl _)]
  · rw [Nat.min_eq_right (by omega), Nat.sub_self, List.take_zero, List.drop_eq_nil_of_le (by omega)]
theorem cut_take (xs : List V) (j : Nat) : cutV xs none (some (j : Int)) = xs.take j := by
  unfold cutV
  rw [HT.sIx_none, sIx_nat, List.drop_zero, Nat.sub_zero]
  by_cases h : j ≤ xs.length
  · rw [Nat.min_eq_left h]
  · rw [Nat.min_eq_right (by omega), List.take_of_length_le (Nat.le_refl _), List.take_of_length_le (by omega)]
/-! guilds -/
def some12 : List Str := ["n", "no", "nor", "north", "s", "so", "e", "west", "westward", "ab", "a", "zz"]
def guildsOf (t n : Nat) : List Str := (some12.drop t ++ some12.take t).take n
structure GsOk (gs : List Str) : Prop where
  nd : gs.Nodup
  l1 : 1 ≤ gs.length
  l12 : gs.length ≤ 12
  str : ∀ z ∈ gs, PySem.PyData.strOk z = true
  len : ∀ z ∈ gs, z.length ≤ 8
theorem guilds_ok1 : ∀ t, t < 12 → ∀ n ∈ [1, 2, 4, 12], (guildsOf t n).Nodup ∧ 1 ≤ (guildsOf t n).length ∧ (guildsOf t n).length ≤ 12 ∧ (∀ z ∈ guildsOf t n, PySem.PyData.strOk z = true ∧ z.length ≤ 8) := by decide +kernel
theorem guilds_ok {t n : Nat} (h : t < 12) (hn : n ∈ [1, 2, 4, 12]) : GsOk (guildsOf t n) := by
  obtain ⟨h1, h2, h3, h4⟩ := guilds_ok1 t h n hn
  exact ⟨h1, h2, h3, fun z hz => (h4 z hz).1, fun z hz => (h4 z hz).2⟩
/-! names of rows -/
def ten : Str := "abcdefghij"
def rowName (i : Nat) : Str := Txt.mul ⟨#[ten.cps.toList.getD (i / 6) 0]⟩ (1 + ((i % 6 : Nat) : Int))
def allNames : List Str := (List.range 60).map rowName
theorem names_ok1 : allNames.Nodup ∧ (∀ z ∈ allNames, PySem.PyData.strOk z = true ∧ z.length ≤ 8 ∧ z ∉ (["z", "aaaaaaa", "zed"] : List Str)) := by decide +kernel
theorem rowName_inj {i j : Nat} (hi : i < 60) (hj : j < 60) (h : rowName i = rowName j) : i = j := by
  have nd := names_ok1.1
  have gi : ∀ {i : Nat}, i < 60 → allNames[i]? = some (rowName i) := fun {i} hi => by
    unfold allNames
    rw [List.getElem?_map, List.getElem?_range hi]
    rfl
  have g1 := gi hi
  have g2 := gi hj
  rw [← h] at g2
  obtain ⟨l1, e1⟩ := List.getElem?_eq_some_iff.mp g1
  obtain ⟨l2, e2⟩ := List.getElem?_eq_some_iff.mp g2
  exact (List.getElem_inj nd).mp (e1.trans e2.symm)
theorem rowName_mem {i : Nat} (hi : i < 60) : rowName i ∈ allNames := List.mem_map.mpr ⟨i, List.mem_range.mpr hi, rfl⟩
theorem mul_okB (i : Nat) {n : Int} (h0 : 1 ≤ n) (h1 : n ≤ 6) : MulOk ⟨#[i]⟩ n :=
  mulOk_of 16 1048576 (by show 1 ≤ 16; decide) (by omega) (by omega) (by decide) (by decide)
/-! dues -/
def DueAt (H : Hp) (p : Key × V) (kv : Str × List Int) : Prop := p.1 = Sum.inr kv.1 ∧ ∃ a, p.2 = .ref a ∧ H a = some (.tup (kv.2.map V.int))
def DuesAt (H : Hp) (d : Addr) (kvs : List (Str × List Int)) : Prop := ∃ ps : List (Key × V), H d = some (.dK ps) ∧ Paired (DueAt H) ps kvs
theorem DueAt.kt {H H' : Hp} {p : Key × V} {kv : Str × List Int} (k : KTu H H') (h : DueAt H p kv) : DueAt H' p kv := by
  obtain ⟨e, a, h1, h2⟩ := h
  exact ⟨e, a, h1, k _ _ h2⟩
theorem DuesAt.kt {H H' : Hp} {d : Addr} {kvs : List (Str × List Int)} (k : KTu H H') (hd : ∀ o, H d = some o → H' d = some o) (h : DuesAt H d kvs) : DuesAt H' d kvs := by
  obtain ⟨ps, h1, h2⟩ := h
  exact ⟨ps, hd _ h1, h2.mono fun _ _ x => x.kt k⟩
def duePut (kvs : List (Str × List Int)) (g : Str) (ns : List Int) : List (Str × List Int) := kvs.map fun kv => if kv.1 = g then (kv.1, ns) else kv
theorem duePut_keys (kvs : List (Str × List Int)) (g : Str) (ns : List Int) : (duePut kvs g ns).map (·.1) = kvs.map (·.1) := by
  unfold duePut
  rw [List.map_map]
  refine List.map_congr_left fun kv _ => ?_
  show (if kv.1 = g then (kv.1, ns) else kv).1 = kv.1
  split <;> rfl
theorem due_put {H : Hp} {g : Str} {ns : List Int} {a : Addr} (ha : H a = some (.tup (ns.map V.int))) : ∀ {ps : List (Key × V)} {kvs : List (Str × List Int)}, Paired (DueAt H) ps kvs → Paired (DueAt H) (ps.map fun kv => if kv.1 = Sum.inr g then (kv.1, .ref a) else kv) (duePut kvs g ns)
  | _, _, .nil => .nil
  | p :: ps, kv :: kvs, .cons h t => by
    obtain ⟨e, x⟩ := h
    refine .cons ?_ (due_put ha t)
    show DueAt H (if p.1 = Sum.inr g then (p.1, V.ref a) else p) (if kv.1 = g then (kv.1, ns) else kv)
    by_cases z : kv.1 = g
    · have z' : p.1 = Sum.inr g := by rw [e, z]
      rw [if_pos z', if_pos z]
      exact ⟨e, a, rfl, ha⟩
    · have z' : ¬ p.1 = Sum.inr g := fun q => z (by rw [e] at q; exact Sum.inr.inj q)
      rw [if_neg z', if_neg z]
      exact ⟨e, x⟩
theorem due_any {H : Hp} {g : Str} : ∀ {ps : List (Key × V)} {kvs : List (Str × List Int)}, Paired (DueAt H) ps kvs → g ∈ kvs.map (·.1) → (ps.any fun kv => decide (kv.1 = Sum.inr g)) = true
  | _, _, .nil, h => nomatch h
  | p :: ps, kv :: kvs, .cons h t, hm => by
    rw [List.any_cons]
    rcases List.mem_cons.mp hm with z | z
    · have z' : p.1 = Sum.inr g := by rw [h.1]; exact congrArg Sum.inr z.symm
      rw [decide_eq_true z']
      rfl
    · rw [due_any t z, Bool.or_true]
theorem merge_nd : ∀ (ps acc : List (Key × V)), ((acc ++ ps).map (·.1)).Nodup → mergeK acc ps = acc ++ ps
  | [], acc, _ => by rw [List.append_nil]; rfl
  | p :: ps, acc, h => by
    show mergeK (putK acc p.1 p.2) ps = _
    have hn : ∀ kv ∈ acc, kv.1 ≠ p.1 := fun kv hk z => by
      rw [List.map_append, List.nodup_append] at h
      exact h.2.2 kv.1 (List.mem_map.mpr ⟨kv, hk, rfl⟩) p.1 (List.mem_map.mpr ⟨p, List.mem_cons_self, rfl⟩) z
    have hv : (acc.any fun kv => decide (kv.1 = p.1)) = false := by
      rw [List.any_eq_false]
      intro kv hk
      simpa using hn kv hk
    have e : putK acc p.1 p.2 = acc ++ [p] := by
      unfold putK
      rw [hv]
      rfl
    rw [e, merge_nd ps (acc ++ [p]) (by rw [List.append_assoc]; exact h), List.append_assoc]
    rfl
theorem due_keys {H : Hp} : ∀ {ps : List (Key × V)} {kvs : List (Str × List Int)}, Paired (DueAt H) ps kvs → ps.map (·.1) = (kvs.map (·.1)).map Sum.inr
  | _, _, .nil => rfl
  | p :: ps, kv :: kvs, .cons h t => by
    rw [List.map_cons, List.map_cons, List.map_cons, due_keys t, h.1]
theorem keys_nd {gs : List Str} (h : gs.Nodup) : (gs.map (Sum.inr : Str → Key)).Nodup := by
  unfold List.Nodup at *
  rw [List.pairwise_map]
  exact h.imp fun hne z => hne (Sum.inr.inj z)
/-! rows -/
structure RowOk (gs : List Str) (wr : Nat) (i : Nat) (R : Gang × Int) : Prop where
  ok : GangOk gs wr R.1
  name : R.1.name = rowName i
  n0 : 0 ≤ R.2
  nm : R.2 % 100 = (i : Int)
  n1 : R.2 < 6100
def RowsOk (gs : List Str) (wr : Nat) (Rs : List (Gang × Int)) : Prop := Rs.length ≤ 60 ∧ ∀ i R, Rs[i]? = some R → RowOk gs wr i R
theorem RowsOk.snoc {gs : List Str} {wr : Nat} {Rs : List (Gang × Int)} {R : Gang × Int} (h : RowsOk gs wr Rs) (hl : Rs.length < 60) (r : RowOk gs wr Rs.length R) : RowsOk gs wr (Rs ++ [R]) := by
  refine ⟨by rw [List.length_append]; show Rs.length + 1 ≤ 60; omega, fun i R' e => ?_⟩
  by_cases z : i < Rs.length
  · rw [List.getElem?_append_left z] at e
    exact h.2 i R' e
  · rw [List.getElem?_append_right (by omega)] at e
    have hz : i - Rs.length = 0 := by
      obtain ⟨q, _⟩ := List.getElem?_eq_some_iff.mp e
      have : i - Rs.length < 1 := q
      omega
    rw [hz] at e
    cases e
    rw [show i = Rs.length by omega]
    exact r
/-- what stands while the state is drawn: H as it was at first, H' as it is -/
structure Drawn (H : Hp) (hb gl : Addr) (gs : List Str) (c : Int) (H' : Hp) : Prop where
  same : Same H H'
  box : BoxAt H' hb c
  gl : H' gl = some (.lst (gs.map V.str))
theorem same_kp {H H1 H2 : Hp} {b : Addr} (s : Same H H1) (n : H b = none) (k : Kp [b] H1 H2) : Same H H2 := fun x o e => k x o (fun z => by
  rw [List.mem_singleton.mp z, n] at e
  cases e) (s x o e)
theorem same_put {H H1 : Hp} {b : Addr} {o : HO} (s : Same H H1) (n : H b = none) : Same H (upd H1 b o) := fun x u e => by
  rw [upd_ne (ne_of_none e n)]
  exact s x u e
theorem Drawn.new {H H' H2 : Hp} {hb gl : Addr} {gs : List Str} {c : Int} (D : Drawn H hb gl gs c H') (s : Same H' H2) : Drawn H hb gl gs c H2 :=
  ⟨D.same.trans s, D.box.same s, s _ _ D.gl⟩
theorem Drawn.asked {H H' H2 : Hp} {hb gl : Addr} {gs : List Str} {c c' : Int} (D : Drawn H hb gl gs c H') (n : H hb = none) (k : Kp [hb] H' H2) (B : BoxAt H2 hb c') : Drawn H hb gl gs c' H2 :=
  ⟨same_kp D.same n k, B, k _ _ (fun z => box_strs D.box D.gl (List.mem_singleton.mp z)) D.gl⟩
theorem Drawn.other {H H' H2 : Hp} {hb gl b : Addr} {gs : List Str} {c c' : Int} (D : Drawn H hb gl gs c H') (n : H b = none) (nb : b ≠ hb) (B : BoxAt H' b c') (k : Kp [b] H' H2) : Drawn H hb gl gs c H2 :=
  ⟨same_kp D.same n k, D.box.kp k fun z => nb (List.mem_singleton.mp z).symm, k _ _ (fun z => box_strs B D.gl (List.mem_singleton.mp z)) D.gl⟩
theorem Drawn.put {H H' : Hp} {hb gl p : Addr} {gs : List Str} {c : Int} {o : HO} (D : Drawn H hb gl gs c H') (n : H p = none) (n1 : p ≠ hb) (n2 : p ≠ gl) : Drawn H hb gl gs c (upd H' p o) := by
  refine ⟨same_put D.same n, ?_, by rw [upd_ne n2.symm]; exact D.gl⟩
  obtain ⟨xs, h1, h2⟩ := D.box
  exact ⟨xs, by rw [upd_ne n1.symm]; exact h1, h2⟩
theorem Drawn.le {H H' : Hp} {hb gl : Addr} {gs : List Str} {c c' : Int} (D : Drawn H hb gl gs c H') (h : c ≤ c') : Drawn H hb gl gs c' H' := ⟨D.same, D.box.le h, D.gl⟩
/-- the rows so far, at r -/
def RowsAt (H : Hp) (r : Addr) (Rs : List (Gang × Int)) : Prop := ∃ as : List Addr, H r = some (.lst (as.map V.ref)) ∧ Paired (RowAt H) as Rs
theorem RowsAt.kt {H H' : Hp} {r : Addr} {Rs : List (Gang × Int)} (k : KTu H H') (hr : ∀ o, H r = some o → H' r = some o) (h : RowsAt H r Rs) : RowsAt H' r Rs := by
  obtain ⟨as, h1, h2⟩ := h
  exact ⟨as, hr _ h1, h2.mono fun _ _ x => x.kt k⟩
/-- what the state is: its dues, its rows, its gang -/
structure StateAt (H' : Hp) (d r g : Addr) (gs : List Str) (wr : Nat) (kvs : List (Str × List Int)) (Rs : List (Gang × Int)) (G : Gang) : Prop where
  gsok : GsOk gs
  w1 : 1 ≤ wr
  w8 : wr ≤ 8
  dues : DuesAt H' d kvs
  keys : kvs.map (·.1) = gs
  amts : ∀ kv ∈ kvs, Amt kv.2 ∧ kv.2.length = wr
  rows : RowsAt H' r Rs
  rok : RowsOk gs wr Rs
  gang : GangAt H' g G
  gok : GangOk gs wr G
  gname : G.name ∈ (["z", "aaaaaaa", "zed"] : List Str)
def spState (K : PySem.W.Frag) : Sp := fun vs H Q _ => ∃ (a : Addr) (ns : List Int), vs = [.ref a] ∧ SqL K H a (ns.map V.int) ∧ ns.length ≤ 63 ∧
  ∀ t d r g gs wr kvs Rs G H', Same H H' → H t = none → H' t = some (.tup [.ref d, .ref r, .ref g]) → H d = none → H r = none → StateAt H' d r g gs wr kvs Rs G → Q (.ref t) H'
/-- a pair (guild, due) -/
def PairAt (H : Hp) (p : Addr) (kv : Str × List Int) : Prop := ∃ a, H p = some (.tup [.str kv.1, .ref a]) ∧ H a = some (.tup (kv.2.map V.int))
theorem PairAt.kt {H H' : Hp} {p : Addr} {kv : Str × List Int} (k : KTu H H') (h : PairAt H p kv) : PairAt H' p kv := by
  obtain ⟨a, h1, h2⟩ := h
  exact ⟨a, k _ _ h1, k _ _ h2⟩
theorem pair_split {K : PySem.W.Frag} {H : Hp} : ∀ {ps : List Addr} {kvs : List (Str × List Int)}, Paired (PairAt H) ps kvs → ∃ qs : List (Key × V), Paired (fun p kv => SqT K H p [kV kv.1, kv.2]) ps qs ∧ Paired (DueAt H) qs kvs
  | _, _, .nil => ⟨[], .nil, .nil⟩
  | p :: ps, kv :: kvs, .cons h t => by
    obtain ⟨qs, h1, h2⟩ := pair_split (K := K) t
    obtain ⟨a, g1, g2⟩ := h
    exact ⟨(Sum.inr kv.1, .ref a) :: qs, .cons (SqT.of g1) h1, .cons ⟨rfl, a, rfl, g2⟩ h2⟩
def GangsAt (gs : List Str) (wr : Nat) (H : Hp) (ds : List Addr) : Prop := ∀ x ∈ ds, ∃ G, GangAt H x G ∧ GangOk gs wr G
theorem GangsAt.kt {gs : List Str} {wr : Nat} {H H' : Hp} {ds : List Addr} (k : KTu H H') (h : GangsAt gs wr H ds) : GangsAt gs wr H' ds := fun x hx => by
  obtain ⟨G, h1, h2⟩ := h x hx
  exact ⟨G, h1.kt k, h2⟩
theorem sum_nn : ∀ {ns : List Int}, (∀ n ∈ ns, 0 ≤ n) → 0 ≤ ns.sum
  | [], _ => Int.le_refl _
  | n :: ns, h => by
    rw [List.sum_cons]
    have h1 := h n List.mem_cons_self
    have h2 := sum_nn fun x hx => h x (List.mem_cons_of_mem _ hx)
    omega
theorem paired_get {α β : Type} {R : α → β → Prop} : ∀ {xs : List α} {ys : List β}, Paired R xs ys → ∀ {i : Nat} {x : α}, xs[i]? = some x → ∃ y, ys[i]? = some y ∧ R x y
  | _, _, .nil, _, _, h => by simp at h
  | x :: xs, y :: ys, .cons r t, 0, z, h => by
    cases h
    exact ⟨y, rfl, r⟩
  | x :: xs, y :: ys, .cons r t, i + 1, z, h => paired_get t (i := i) (by simpa using h)
theorem paired_get2 {α β : Type} {R : α → β → Prop} : ∀ {xs : List α} {ys : List β}, Paired R xs ys → ∀ {i : Nat} {y : β}, ys[i]? = some y → ∃ x, xs[i]? = some x ∧ R x y
  | _, _, .nil, _, _, h => by simp at h
  | x :: xs, y :: ys, .cons r t, 0, z, h => by
    cases h
    exact ⟨x, rfl, r⟩
  | x :: xs, y :: ys, .cons r t, i + 1, z, h => paired_get2 t (i := i) (by simpa using h)
theorem map_get {α : Type} {f : α → V} {xs : List α} {i : Nat} {v : V} (h : (xs.map f)[i]? = some v) : ∃ x, xs[i]? = some x ∧ v = f x := by
  rw [List.getElem?_map] at h
  cases e : xs[i]? with
  | none => rw [e] at h; cases h
  | some x =>
    rw [e] at h
    exact ⟨x, rfl, (Option.some.inj h).symm⟩
theorem small63 {n : Nat} (h : n ≤ 900) : n < sizeLine := small1000 (by omega)
def rLenS (K : PySem.W.Frag) : List V → Hp → VK → Prop := fun xs H Q => ∃ p ys, xs = [.ref p] ∧ (SqL K H p ys ∨ SqT K H p ys) ∧ Q (.int ys.length) H
def rTupOf (K : PySem.W.Frag) : List V → Hp → VK → Prop := fun xs H Q => ∃ p ys, xs = [.ref p] ∧ ((SqL K H p ys ∧ ∀ l, H l = none → Q (.ref l) (upd H l (.tup ys))) ∨ (SqT K H p ys ∧ Q (.ref p) H))
def rLstOf (K : PySem.W.Frag) : List V → Hp → VK → Prop := fun xs H Q => ∃ p ys, xs = [.ref p] ∧ (SqL K H p ys ∨ SqT K H p ys) ∧ ∀ l, H l = none → Q (.ref l) (upd H l (.lst ys))
end My

namespace My
open PySem PySem.Spec PyProof.Rows L2 GX GxR
/-! the same, as the gangs' laws say it -/
def Lf (x y : V) : Prop := (∃ b, x = .bl b ∧ y = .bl b) ∨ (∃ i, x = .int i ∧ y = .int i) ∨ (∃ z, x = .str z ∧ y = .str z)
def Sm (H : Hp) : Nat → V → V → Prop
  | 0, x, y => Lf x y
  | n + 1, x, y => Lf x y ∨ ∃ (a b : Addr) (xs ys : List V), x = .ref a ∧ y = .ref b ∧ ((H a = some (.lst xs) ∧ H b = some (.lst ys)) ∨ (H a = some (.tup xs) ∧ H b = some (.tup ys))) ∧ xs.length = ys.length ∧ xs.length < 100000 ∧
      ∀ (i : Nat) (x y : V), xs[i]? = some x → ys[i]? = some y → Sm H n x y
theorem Sm.leaf {H : Hp} {x y : V} (h : Lf x y) : ∀ n, Sm H n x y
  | 0 => h
  | _ + 1 => .inl h
theorem Sm.same {H H' : Hp} (e : Same H H') : ∀ (n : Nat) (x y : V), Sm H n x y → Sm H' n x y
  | 0, _, _, h => h
  | n + 1, x, y, h => by
    rcases h with h | ⟨a, b, xs, ys, e1, e2, h, hl, hl2, k⟩
    · exact .inl h
    · refine .inr ⟨a, b, xs, ys, e1, e2, ?_, hl, hl2, fun i x y h1 h2 => Sm.same e n x y (k i x y h1 h2)⟩
      rcases h with ⟨h1, h2⟩ | ⟨h1, h2⟩
      · exact .inl ⟨e _ _ h1, e _ _ h2⟩
      · exact .inr ⟨e _ _ h1, e _ _ h2⟩
theorem sm_int {H : Hp} {n : Nat} (i : Int) : Sm H n (.int i) (.int i) := Sm.leaf (.inr (.inl ⟨i, rfl, rfl⟩)) n
theorem sm_str {H : Hp} {n : Nat} (z : Str) : Sm H n (.str z) (.str z) := Sm.leaf (.inr (.inr ⟨z, rfl, rfl⟩)) n
theorem sm_bl {H : Hp} {n : Nat} (b : Bool) : Sm H n (.bl b) (.bl b) := Sm.leaf (.inl ⟨b, rfl, rfl⟩) n
theorem sm_lst {H : Hp} {n : Nat} {p q : Addr} {xs ys : List V} (h1 : H p = some (.lst xs)) (h2 : H q = some (.lst ys)) (hs : xs.length < 100000) (k : Prs (Sm H n) xs ys) : Sm H (n + 1) (.ref p) (.ref q) :=
  .inr ⟨p, q, xs, ys, rfl, rfl, .inl ⟨h1, h2⟩, k.len, hs, k.get⟩
theorem sm_tup {H : Hp} {n : Nat} {p q : Addr} {xs ys : List V} (h1 : H p = some (.tup xs)) (h2 : H q = some (.tup ys)) (hs : xs.length < 100000) (k : Prs (Sm H n) xs ys) : Sm H (n + 1) (.ref p) (.ref q) :=
  .inr ⟨p, q, xs, ys, rfl, rfl, .inr ⟨h1, h2⟩, k.len, hs, k.get⟩
theorem sm_ints {H : Hp} {n : Nat} {p q : Addr} {ns : List Int} (h1 : H p = some (.tup (ns.map V.int))) (h2 : H q = some (.tup (ns.map V.int))) (hs : ns.length < 100000) : Sm H (n + 1) (.ref p) (.ref q) :=
  sm_tup h1 h2 (by rw [List.length_map]; exact hs) (Prs.ints (fun i => sm_int i) ns)
def spSame (n : Nat) : Sp := fun vs H Q _ => ∃ x y : V, vs = [x, y] ∧ Sm H n x y ∧ ∀ H', Same H H' → Q (.bl true) H'
theorem prs_strs {R : V → V → Prop} (r : ∀ z, R (.str z) (.str z)) : ∀ zs : List Str, Prs R (zs.map V.str) (zs.map V.str)
  | [] => .nil
  | z :: zs => .cons (r z) (prs_strs r zs)
/-- a gang is the same as another of the same letters -/
theorem sm_gang {H : Hp} {n : Nat} {g g' : Addr} {G : Gang} (h : GangAt H g G) (h' : GangAt H g' G) (hl : G.want.length < 100000) : Sm H (n + 2) (.ref g) (.ref g') := by
  obtain ⟨w, h1, h2⟩ := h
  obtain ⟨w', h1', h2'⟩ := h'
  exact sm_tup h1 h1' (by show 7 < 100000; decide) (.cons (sm_str _) (.cons (sm_str _) (.cons (sm_int _) (.cons (sm_int _) (.cons (sm_ints h2 h2' hl) (.cons (sm_str _) (.cons (sm_int _) .nil)))))))
end My

namespace My
open PySem PySem.Spec PyProof.Rows L2 GX GxR
def spTimes (K : PySem.W.Frag) (T : Addr) : Sp := fun vs H Q _ => ∃ (a : Addr) (n : Int) (xs : List Int), vs = [.ref a, .int n] ∧ SqT K H a (xs.map V.int) ∧ xs.length ≤ 1000 ∧ 0 ≤ n ∧ n ≤ 1000000000 ∧ TabG H T ∧
  ∀ p H', TabG H' T → Kp [T] H H' → H p = none → H' p = some (.tup ((xs.map (· * n)).map V.int)) → Q (.ref p) H'
/-- what all tasks of a gang want -/
def Gang.whole (G : Gang) : List Int := G.want.map (· * G.many)
def spWhole (T : Addr) : Sp := fun vs H Q _ => ∃ (g : Addr) (G : Gang), vs = [.ref g] ∧ GangAt H g G ∧ G.want.length ≤ 1000 ∧ 0 ≤ G.many ∧ G.many ≤ 1000000000 ∧ TabG H T ∧
  ∀ p H', TabG H' T → Kp [T] H H' → H p = none → H' p = some (.tup (G.whole.map V.int)) → Q (.ref p) H'
def spTimesS (K : PySem.W.Frag) : Sp := fun vs H Q _ => ∃ (a : Addr) (n : Int) (xs : List Int), vs = [.ref a, .int n] ∧ SqT K H a (xs.map V.int) ∧ xs.length ≤ 1000 ∧ 0 ≤ n ∧ n ≤ 1000000000 ∧
  ∀ p H', Same H H' → H p = none → H' p = some (.tup ((xs.map (· * n)).map V.int)) → Q (.ref p) H'
def spWholeS : Sp := fun vs H Q _ => ∃ (g : Addr) (G : Gang), vs = [.ref g] ∧ GangAt H g G ∧ G.want.length ≤ 1000 ∧ 0 ≤ G.many ∧ G.many ≤ 1000000000 ∧
  ∀ p H', Same H H' → H p = none → H' p = some (.tup (G.whole.map V.int)) → Q (.ref p) H'
theorem whole_tab (T : Addr) (vs : List V) (H : Hp) (Q : VK) (E : XK) (h : spWhole T vs H Q E) : spWholeS vs H Q E := by
  obtain ⟨g, G, e, h1, h2, h3, h4, hT, q⟩ := h
  exact ⟨g, G, e, h1, h2, h3, h4, fun p H' s n h => q p H' (TabG.same s hT) (Same.kp _ s) n h⟩
theorem kt_tab {T : Addr} {H H' : Hp} (t : TabG H T) (k : Kp [T] H H') : KTu H H' := fun x xs h => k x _ (fun z => by
  obtain ⟨ps, h1, _⟩ := t
  rw [List.mem_singleton.mp z, h1] at h
  cases h) h
theorem tab_lst {T p : Addr} {H H' : Hp} {xs : List V} (t : TabG H T) (k : Kp [T] H H') (h : H p = some (.lst xs)) : H' p = some (.lst xs) := k _ _ (fun z => by
  obtain ⟨ps, h1, _⟩ := t
  rw [List.mem_singleton.mp z, h1] at h
  cases h) h
theorem rep_sum (n : Int) : ∀ v : Nat, (List.replicate v n).sum = n * (v : Int)
  | 0 => by simp
  | v + 1 => by
    rw [List.replicate_succ, List.sum_cons, rep_sum n v, Int.natCast_add, Int.mul_add]
    show n + n * v = n * v + n * 1
    rw [Int.mul_one, Int.add_comm]
def spLaw (K : PySem.W.Frag) (Ts : List Addr) : Sp := fun vs H Q _ => ∃ (a : Addr) (ns : List Int), vs = [.ref a] ∧ SqL K H a (ns.map V.int) ∧ ns.length ≤ 63 ∧ (∀ T ∈ Ts, TabG H T) ∧ ∀ H', Q (.bl true) H'
theorem amt_len {gs : List Str} {wr : Nat} {G : Gang} (h : GangOk gs wr G) (w8 : wr ≤ 8) : G.want.length ≤ 8 := by rw [h.wlen]; exact w8
end My

namespace My
open PySem PySem.W PySem.Spec PyProof.Rows L2 GX GxR
/-! the order of rows -/
def rowLe (R S : Gang × Int) : Bool := decide (-R.1.rank < -S.1.rank ∨ (-R.1.rank = -S.1.rank ∧ R.2 ≤ S.2))
def ord (Rs : List (Gang × Int)) : List (Gang × Int) := Rs.mergeSort rowLe
theorem rowLe_trans (a b c : Gang × Int) (h1 : rowLe a b = true) (h2 : rowLe b c = true) : rowLe a c = true := by
  unfold rowLe at *
  simp only [decide_eq_true_eq] at *
  omega
theorem rowLe_total (a b : Gang × Int) : (rowLe a b || rowLe b a) = true := by
  unfold rowLe
  simp only [Bool.or_eq_true, decide_eq_true_eq]
  omega
theorem ord_sorted (Rs : List (Gang × Int)) : (ord Rs).Pairwise fun a b => rowLe a b = true := List.pairwise_mergeSort rowLe_trans rowLe_total Rs
theorem ord_perm (Rs : List (Gang × Int)) : (ord Rs).Perm Rs := List.mergeSort_perm Rs rowLe
theorem uniq_sorted {α : Type} {le : α → α → Bool} : ∀ {xs ys : List α}, xs.Perm ys → xs.Pairwise (fun a b => le a b = true) → ys.Pairwise (fun a b => le a b = true) → (∀ a ∈ xs, ∀ b ∈ xs, le a b = true → le b a = true → a = b) → xs = ys
  | [], ys, p, _, _, _ => (List.nil_perm.mp p).symm ▸ rfl
  | x :: xs, [], p, _, _, _ => absurd p.length_eq (by simp)
  | x :: xs, y :: ys, p, hx, hy, anti => by
    have hxy : x = y := by
      have h1 : x ∈ y :: ys := p.mem_iff.mp List.mem_cons_self
      have h2 : y ∈ x :: xs := p.mem_iff.mpr List.mem_cons_self
      rcases List.mem_cons.mp h1 with e | h1
      · exact e
      · rcases List.mem_cons.mp h2 with e | h2
        · exact e.symm
        · exact anti x List.mem_cons_self y (List.mem_cons_of_mem _ h2) ((List.pairwise_cons.mp hx).1 y h2) ((List.pairwise_cons.mp hy).1 x h1)
    subst hxy
    rw [uniq_sorted (List.Perm.cons_inv p) (List.pairwise_cons.mp hx).2 (List.pairwise_cons.mp hy).2 fun a ha b hb => anti a (List.mem_cons_of_mem _ ha) b (List.mem_cons_of_mem _ hb)]
/-- what a gang of a row is, for the laws' own reckoning -/
structure Fit (R : Gang × Int) : Prop where
  name : PySem.PyData.strOk R.1.name = true
  guild : PySem.PyData.strOk R.1.guild = true
  how : PySem.PyData.strOk R.1.how = true
  wlen : R.1.want.length ≤ 8
  amt : Amt R.1.want
  m0 : 0 ≤ R.1.many
  m60 : R.1.many ≤ 60
structure Good2 (Rs : List (Gang × Int)) : Prop where
  fit : ∀ R ∈ Rs, Fit R
  names : (Rs.map (·.1.name)).Nodup
  nums : (Rs.map (·.2)).Nodup
  len : Rs.length ≤ 100
theorem nodup_inj {α β : Type} {f : α → β} : ∀ {xs : List α}, (xs.map f).Nodup → ∀ a ∈ xs, ∀ b ∈ xs, f a = f b → a = b
  | [], _, _, h, _, _, _ => nomatch h
  | x :: xs, nd, a, ha, b, hb, e => by
    rw [List.map_cons, List.nodup_cons] at nd
    rcases List.mem_cons.mp ha with za | ha
    · rcases List.mem_cons.mp hb with zb | hb
      · rw [za, zb]
      · rw [za] at e
        exact absurd (List.mem_map.mpr ⟨b, hb, e.symm⟩) nd.1
    · rcases List.mem_cons.mp hb with zb | hb
      · rw [zb] at e
        exact absurd (List.mem_map.mpr ⟨a, ha, e⟩) nd.1
      · exact nodup_inj nd.2 a ha b hb e
theorem rowLe_anti {Rs : List (Gang × Int)} (h : (Rs.map (·.2)).Nodup) : ∀ a ∈ Rs, ∀ b ∈ Rs, rowLe a b = true → rowLe b a = true → a = b := fun a ha b hb h1 h2 => by
  refine nodup_inj h a ha b hb ?_
  unfold rowLe at h1 h2
  simp only [decide_eq_true_eq] at h1 h2
  show a.2 = b.2
  omega
/-- THE order: any sorted arrangement is it -/
theorem ord_of {Rs Ss : List (Gang × Int)} (h : (Rs.map (·.2)).Nodup) (p : Ss.Perm Rs) (s : Ss.Pairwise fun a b => rowLe a b = true) : Ss = ord Rs :=
  uniq_sorted (p.trans (ord_perm Rs).symm) s (ord_sorted Rs) fun a ha b hb => rowLe_anti h a (p.mem_iff.mp ha) b (p.mem_iff.mp hb)
theorem ord_perm_eq {Rs Ss : List (Gang × Int)} (h : (Rs.map (·.2)).Nodup) (p : Ss.Perm Rs) : ord Ss = ord Rs := ord_of h ((ord_perm Ss).trans p) (ord_sorted Ss)
theorem Good2.perm {Rs Ss : List (Gang × Int)} (h : Good2 Rs) (p : Ss.Perm Rs) : Good2 Ss :=
  ⟨fun R hR => h.fit R (p.mem_iff.mp hR), (p.map (·.1.name)).nodup_iff.mpr h.names, (p.map (·.2)).nodup_iff.mpr h.nums, by rw [p.length_eq]; exact h.len⟩
theorem Good2.sub {Rs Ss : List (Gang × Int)} (h : Good2 Rs) (p : Ss.Sublist Rs) : Good2 Ss :=
  ⟨fun R hR => h.fit R (p.subset hR), (p.map (·.1.name)).nodup h.names, (p.map (·.2)).nodup h.nums, Nat.le_trans p.length_le h.len⟩
/-! rows as data -/
def gangD (G : Gang) : PyData := .tuple [.str G.name, .str G.guild, .int G.rank, .int G.many, .tuple (G.want.map PyData.int), .str G.how, .int G.len]
def rowD (R : Gang × Int) : PyData := .tuple [gangD R.1, .int R.2]
theorem dp_ints {K : PySem.W.Frag} {H : Hp} : ∀ ns : List Int, DpAll K H (ns.map V.int) (ns.map PyData.int)
  | [] => .nil
  | n :: ns => .cons (.int n) (dp_ints ns)
theorem dp_gang {K : PySem.W.Frag} {H : Hp} {g : Addr} {G : Gang} (h : GangAt H g G) : Dp K H (.ref g) (gangD G) := by
  obtain ⟨w, h1, h2⟩ := h
  exact .tup (SqT.of h1) (.cons (.str _) (.cons (.str _) (.cons (.int _) (.cons (.int _) (.cons (.tup (SqT.of h2) (dp_ints _)) (.cons (.str _) (.cons (.int _) .nil)))))))
theorem dp_row {K : PySem.W.Frag} {H : Hp} {r : Addr} {R : Gang × Int} (h : RowAt H r R) : Dp K H (.ref r) (rowD R) := by
  obtain ⟨g, h1, h2⟩ := h
  exact .tup (SqT.of h1) (.cons (dp_gang h2) (.cons (.int _) .nil))
theorem dp_rows {K : PySem.W.Frag} {H : Hp} : ∀ {as : List Addr} {Rs : List (Gang × Int)}, Paired (RowAt H) as Rs → DpAll K H (as.map V.ref) (Rs.map rowD)
  | _, _, .nil => .nil
  | _, _, .cons r t => .cons (dp_row r) (dp_rows t)
theorem lay_ints : ∀ ns : List Int, PyData.canLayAll0 (ns.map PyData.int) = true
  | [] => rfl
  | n :: ns => by
    show (PyData.canLay0 (.int n) && PyData.canLayAll0 (ns.map PyData.int)) = true
    rw [lay_ints ns]
    rfl
theorem dpt_ints (ns : List Int) : PyData.depthAll (ns.map PyData.int) = 0 := depth_ints ns
theorem lay_row {R : Gang × Int} (f : Fit R) : PyData.canLay0 (rowD R) = true := by
  simp [rowD, gangD, PyData.canLay0, PyData.canLayAll0, f.name, f.guild, f.how, lay_ints]
theorem dpt_row (R : Gang × Int) : (rowD R).depth = 3 := by
  simp [rowD, gangD, PyData.depth, PyData.depthAll, dpt_ints]
theorem sh_row {R : Gang × Int} (f : Fit R) : SeqAt.shaped (rowD R) = true := by
  unfold SeqAt.shaped
  rw [lay_row f, dpt_row]
  rfl
theorem lay_rows : ∀ {Rs : List (Gang × Int)}, (∀ R ∈ Rs, Fit R) → PyData.canLayAll0 (Rs.map rowD) = true
  | [], _ => rfl
  | R :: Rs, h => by
    show (PyData.canLay0 (rowD R) && PyData.canLayAll0 (Rs.map rowD)) = true
    rw [lay_row (h R List.mem_cons_self), lay_rows fun S hS => h S (List.mem_cons_of_mem _ hS)]
    rfl
theorem dpt_rows : ∀ Rs : List (Gang × Int), PyData.depthAll (Rs.map rowD) ≤ 3
  | [] => by decide
  | R :: Rs => by
    show PyData.depthAll (rowD R :: Rs.map rowD) ≤ 3
    have := dpt_rows Rs
    simp only [PyData.depthAll, dpt_row]
    omega
theorem sh_rows {Rs : List (Gang × Int)} (h : ∀ R ∈ Rs, Fit R) : SeqAt.shaped (.list (Rs.map rowD)) = true := by
  unfold SeqAt.shaped
  have h1 : PyData.canLay0 (.list (Rs.map rowD)) = true := lay_rows h
  have h2 : (PyData.list (Rs.map rowD)).depth ≤ 64 := by
    have := dpt_rows Rs
    simp only [PyData.depth]
    omega
  rw [h1, decide_eq_true h2]
  rfl
theorem eqv_name {R S : Gang × Int} (h : PyData.eqv (rowD R) (rowD S) = true) : R.1.name = S.1.name := by
  simp only [rowD, gangD, PyData.eqv, PyData.eqvAll, Bool.and_eq_true] at h
  exact eq_of_beq h.1.1
theorem eqv_row {R : Gang × Int} (f : Fit R) : PyData.eqv (rowD R) (rowD R) = true := SeqAt.eqv_refl_plain _ (shaped_plain (sh_row f))
theorem eqv_nil (ds : List PyData) : PyData.eqv (.list ds) (.list []) = ds.isEmpty := by
  cases ds <;> rfl
theorem eqv_list {ds : List PyData} (h : SeqAt.shaped (.list ds) = true) : PyData.eqv (.list ds) (.list ds) = true := SeqAt.eqv_refl_plain _ (shaped_plain h)
theorem place_row {Rs : List (Gang × Int)} (h : Good2 Rs) {j : Nat} {R : Gang × Int} (hj : Rs[j]? = some R) : SeqAt.dataPlace (Rs.map rowD) (rowD R) = some j := by
  obtain ⟨lt, e⟩ := List.getElem?_eq_some_iff.mp hj
  unfold SeqAt.dataPlace
  rw [List.findIdx?_eq_some_iff_getElem]
  refine ⟨by rw [List.length_map]; exact lt, ?_, fun m hm => ?_⟩
  · rw [List.getElem_map, e]
    exact eqv_row (h.fit R (List.mem_of_getElem? hj))
  · rw [List.getElem_map]
    intro z
    have hn := eqv_name z
    have nd := List.pairwise_iff_getElem.mp h.names m j (by rw [List.length_map]; omega) (by rw [List.length_map]; exact lt) hm
    rw [List.getElem_map, List.getElem_map, e] at nd
    exact nd hn
/-! rows of the state -/
theorem hows_ok : ∀ z ∈ hows, PySem.PyData.strOk z = true := by decide +kernel
theorem fit_of {gs : List Str} {wr : Nat} {G : Gang} {n : Int} (ok : GangOk gs wr G) (g : GsOk gs) (w8 : wr ≤ 8) (hn : PySem.PyData.strOk G.name = true) : Fit (G, n) :=
  ⟨hn, g.str _ ok.guild, hows_ok _ ok.how, by show G.want.length ≤ 8; rw [ok.wlen]; exact w8, ok.amt, by have := ok.m1; show 0 ≤ G.many; omega, ok.m60⟩
theorem good_state {gs : List Str} {wr : Nat} {Rs : List (Gang × Int)} (g : GsOk gs) (w8 : wr ≤ 8) (h : RowsOk gs wr Rs) : Good2 Rs := by
  obtain ⟨hl, h⟩ := h
  have at_ : ∀ {i : Nat} (hi : i < Rs.length), RowOk gs wr i Rs[i] := fun {i} hi => h i _ (List.getElem?_eq_getElem hi)
  refine ⟨fun R hR => ?_, ?_, ?_, by omega⟩
  · obtain ⟨i, hi, rfl⟩ := List.mem_iff_getElem.mp hR
    have q := at_ hi
    exact fit_of (G := Rs[i].1) (n := Rs[i].2) q.ok g w8 (by rw [q.name]; exact (names_ok1.2 _ (rowName_mem (by omega))).1)
  · rw [List.Nodup, List.pairwise_iff_getElem]
    intro i j hi hj hij z
    rw [List.length_map] at hi hj
    rw [List.getElem_map, List.getElem_map, (at_ hi).name, (at_ hj).name] at z
    have := rowName_inj (by omega) (by omega) z
    omega
  · rw [List.Nodup, List.pairwise_iff_getElem]
    intro i j hi hj hij z
    rw [List.length_map] at hi hj
    rw [List.getElem_map, List.getElem_map] at z
    have a := (at_ hi).nm
    have b := (at_ hj).nm
    rw [z, b] at a
    omega
end My

namespace My
open PySem PySem.W PySem.Spec PyProof.Rows L2 GX GxR
/-! two lists, as a list of pairs -/
theorem paired_zip {α β : Type} {R : α → β → Prop} : ∀ {xs : List α} {ys : List β}, Paired R xs ys → ∃ ps : List (α × β), ps.map (·.1) = xs ∧ ps.map (·.2) = ys ∧ ∀ p ∈ ps, R p.1 p.2
  | _, _, .nil => ⟨[], rfl, rfl, fun _ h => nomatch h⟩
  | x :: xs, y :: ys, .cons r t => by
    obtain ⟨ps, h1, h2, h3⟩ := paired_zip t
    refine ⟨(x, y) :: ps, by rw [List.map_cons, h1], by rw [List.map_cons, h2], fun p hp => ?_⟩
    rcases List.mem_cons.mp hp with z | z
    · rw [z]
      exact r
    · exact h3 p z
theorem paired_of {α β : Type} {R : α → β → Prop} : ∀ {ps : List (α × β)}, (∀ p ∈ ps, R p.1 p.2) → Paired R (ps.map (·.1)) (ps.map (·.2))
  | [], _ => .nil
  | p :: ps, h => .cons (h p List.mem_cons_self) (paired_of fun q hq => h q (List.mem_cons_of_mem _ hq))
theorem perm_erase {α : Type} : ∀ (xs : List α) (j : Nat) (x : α), xs[j]? = some x → (x :: xs.eraseIdx j).Perm xs
  | [], j, x, h => by simp at h
  | y :: ys, 0, x, h => by
    cases h
    exact List.Perm.refl _
  | y :: ys, j + 1, x, h => by
    have ih := perm_erase ys j x (by simpa using h)
    exact (List.Perm.swap y x _).trans (List.Perm.cons y ih)
theorem erase_map2 {α β : Type} (f : α → β) : ∀ (xs : List α) (j : Nat), (xs.map f).eraseIdx j = (xs.eraseIdx j).map f
  | [], j => by simp
  | x :: xs, 0 => by simp
  | x :: xs, j + 1 => by simp [erase_map2 f xs j]
/-! keys of rows -/
def kyOf (H : Hp) : V → Int × Int
  | .ref a => match H a with
    | some (.tup [.ref g, .int n]) => match H g with
      | some (.tup [_, _, .int r, _, _, _, _]) => (-r, n)
      | _ => (0, 0)
    | _ => (0, 0)
  | _ => (0, 0)
theorem kyOf_row {H : Hp} {a : Addr} {R : Gang × Int} (h : RowAt H a R) : kyOf H (.ref a) = (-R.1.rank, R.2) := by
  obtain ⟨g, h1, w, h2, _⟩ := h
  simp only [kyOf, h1, h2, Gang.flat]
theorem sort_rows {H : Hp} {ps : List (Addr × (Gang × Int))} (h : ∀ p ∈ ps, RowAt H p.1 p.2) :
    ∃ qs : List (Addr × (Gang × Int)), qs.Perm ps ∧ ((ps.map (·.1)).map V.ref).mergeSort (keyLe (kyOf H)) = (qs.map (·.1)).map V.ref ∧ qs.map (·.2) = ord (ps.map (·.2)) := by
  refine ⟨ps.mergeSort fun p q => rowLe p.2 q.2, List.mergeSort_perm _ _, ?_, ?_⟩
  · rw [List.map_map, List.map_map]
    refine (List.map_mergeSort fun a ha b hb => ?_).symm
    show rowLe a.2 b.2 = keyLe (kyOf H) (V.ref a.1) (V.ref b.1)
    unfold keyLe
    rw [kyOf_row (h a ha), kyOf_row (h b hb)]
    rfl
  · exact List.map_mergeSort fun a _ b _ => rfl
def spRank : Sp := fun vs H Q _ => ∃ (g : Addr) (G : Gang), vs = [.ref g] ∧ GangAt H g G ∧ Q (.int G.rank) H
def spPlace : Sp := fun vs H Q _ => ∃ (r : Addr) (R : Gang × Int), vs = [.ref r] ∧ RowAt H r R ∧ ∀ t H', Same H H' → H' t = some (.tup [.int (-R.1.rank), .int R.2]) → Q (.ref t) H'
def spInOrd (K : PySem.W.Frag) : Sp := fun vs H Q _ => ∃ (a : Addr) (as : List Addr) (Rs : List (Gang × Int)), vs = [.ref a] ∧ SqL K H a (as.map V.ref) ∧ Paired (RowAt H) as Rs ∧ Rs.length ≤ 1000 ∧
  ∀ p H' bs, Same H H' → H p = none → H' p = some (.lst (bs.map V.ref)) → Paired (GangAt H') bs ((ord Rs).map (·.1)) → Q (.ref p) H'
def spOrder (K : PySem.W.Frag) : Sp := fun vs H Q _ => ∃ (a : Addr) (as : List Addr) (Rs : List (Gang × Int)), vs = [.ref a] ∧ SqL K H a (as.map V.ref) ∧ Paired (RowAt H) as Rs ∧ Good2 Rs ∧
  ∀ p H' bs, Same H H' → H p = none → H' p = some (.lst (bs.map V.ref)) → Paired (RowAt H') bs (ord Rs) → Q (.ref p) H'
theorem RowAt.same {H H' : Hp} {r : Addr} {R : Gang × Int} (s : Same H H') (h : RowAt H r R) : RowAt H' r R := h.kt (Same.kt s)
theorem GangAt.same {H H' : Hp} {r : Addr} {R : Gang} (s : Same H H') (h : GangAt H r R) : GangAt H' r R := h.kt (Same.kt s)
theorem key_rows {H : Hp} {as : List Addr} {Rs : List (Gang × Int)} (h : Paired (RowAt H) as Rs) : KeyFn spPlace (kyOf H) (as.map V.ref) H := by
  intro x hx H1 s1 Q q
  obtain ⟨a, ha, rfl⟩ := List.mem_map.mp hx
  obtain ⟨i, hi⟩ := List.mem_iff_getElem?.mp ha
  obtain ⟨R, _, hR⟩ := paired_get h hi
  refine ⟨a, R, rfl, hR.same s1, fun t H' s2 e => q t H' s2 ?_⟩
  rw [kyOf_row hR]
  exact e
/-- better than the best so far -/
def better (R B : Gang × Int) : Prop := R.1.rank > B.1.rank ∨ (R.1.rank = B.1.rank ∧ R.2 < B.2)
theorem not_better {R B : Gang × Int} (h : ¬ better R B) : rowLe B R = true := by
  unfold better at h
  unfold rowLe
  rw [decide_eq_true_eq]
  omega
theorem better_le {R B : Gang × Int} (h : better R B) : rowLe R B = true := by
  unfold better at h
  unfold rowLe
  rw [decide_eq_true_eq]
  omega
def lenAt (H : Hp) (l : Addr) : Nat := match H l with
  | some (.lst xs) => xs.length
  | _ => 0
theorem lenAt_of {H : Hp} {l : Addr} {xs : List V} (h : H l = some (.lst xs)) : lenAt H l = xs.length := by
  unfold lenAt
  rw [h]
theorem _root_.L2.Room.units65 {k : Nat} {A : Around} (r : Room k A) : A.units + 65 < cLine := by
  have := r.un
  omega
end My

namespace My
open PySem PySem.W PySem.Spec PyProof.Rows L2 GX GxR
theorem ints_inj : ∀ {xs ys : List Int}, xs.map V.int = ys.map V.int → xs = ys
  | [], [], _ => rfl
  | [], _ :: _, h => by cases h
  | _ :: _, [], h => by cases h
  | x :: xs, y :: ys, h => by
    rw [List.map_cons, List.map_cons] at h
    injection h with h1 h2
    injection h1 with h1
    rw [h1, ints_inj h2]
theorem gang_uniq {H : Hp} {g : Addr} {G G' : Gang} (h : GangAt H g G) (h' : GangAt H g G') : G = G' := by
  obtain ⟨w, h1, h2⟩ := h
  obtain ⟨w', h1', h2'⟩ := h'
  rw [h1] at h1'
  simp only [Gang.flat, Option.some.injEq, HO.tup.injEq, List.cons.injEq, V.str.injEq, V.int.injEq, V.ref.injEq, and_true] at h1'
  obtain ⟨e1, e2, e3, e4, e5, e6, e7⟩ := h1'
  rw [← e5, h2] at h2'
  simp only [Option.some.injEq, HO.tup.injEq] at h2'
  have e8 := ints_inj h2'
  cases G
  cases G'
  simp only at e1 e2 e3 e4 e6 e7 e8
  subst e1 e2 e3 e4 e6 e7 e8
  rfl
theorem row_uniq {H : Hp} {a : Addr} {R R' : Gang × Int} (h : RowAt H a R) (h' : RowAt H a R') : R = R' := by
  obtain ⟨g, h1, h2⟩ := h
  obtain ⟨g', h1', h2'⟩ := h'
  rw [h1] at h1'
  simp only [Option.some.injEq, HO.tup.injEq, List.cons.injEq, V.int.injEq, V.ref.injEq, and_true] at h1'
  obtain ⟨e1, e2⟩ := h1'
  rw [← e1] at h2'
  exact Prod.ext (gang_uniq h2 h2') e2
open Classical in
noncomputable def encOf (H : Hp) (x : V) : PyData := if h : ∃ R : Gang × Int, ∃ a, x = V.ref a ∧ RowAt H a R then rowD h.choose else .none
theorem encOf_row {H : Hp} {a : Addr} {R : Gang × Int} (h : RowAt H a R) : encOf H (.ref a) = rowD R := by
  have ex : ∃ R : Gang × Int, ∃ b, V.ref a = V.ref b ∧ RowAt H b R := ⟨R, a, rfl, h⟩
  unfold encOf
  rw [dif_pos ex]
  obtain ⟨b, e, hb⟩ := ex.choose_spec
  injection e with e
  rw [← e] at hb
  rw [row_uniq hb h]
theorem alike_ints2 : ∀ xs ys : List Int, alikeAll (xs.map PyData.int) (ys.map PyData.int) = true := alike_ints
theorem alike_rows (R S : Gang × Int) : alike (rowD R) (rowD S) = true := by
  simp [rowD, gangD, alike, alikeAll, alike_ints2]
theorem perm_rows {H : Hp} {ps : List (Addr × (Gang × Int))} (le : V → V → Bool) : ∃ qs : List (Addr × (Gang × Int)), qs.Perm ps ∧ ((ps.map (·.1)).map V.ref).mergeSort le = (qs.map (·.1)).map V.ref := by
  refine ⟨ps.mergeSort fun p q => le (V.ref p.1) (V.ref q.1), List.mergeSort_perm _ _, ?_⟩
  rw [List.map_map, List.map_map]
  exact (List.map_mergeSort (f := V.ref ∘ fun x : Addr × (Gang × Int) => x.1) (r := fun p q => le (V.ref p.1) (V.ref q.1)) (s := le) fun a ha b hb => rfl).symm
theorem prs_gangs {H : Hp} {n : Nat} : ∀ {bs ds : List Addr} {Gs : List Gang}, Paired (GangAt H) bs Gs → Paired (GangAt H) ds Gs → (∀ G ∈ Gs, G.want.length < 100000) → Prs (Sm H (n + 2)) (bs.map V.ref) (ds.map V.ref)
  | _, _, _, .nil, .nil, _ => .nil
  | _, _, _, .cons h t, .cons h' t', hl => .cons (sm_gang h h' (hl _ List.mem_cons_self)) (prs_gangs t t' fun G hG => hl G (List.mem_cons_of_mem _ hG))
/-- a list of the same rows, in some order -/
def Like (H : Hp) (Rs : List (Gang × Int)) (b : Addr) : Prop := ∃ (as : List Addr) (Ss : List (Gang × Int)), H b = some (.lst (as.map V.ref)) ∧ Paired (RowAt H) as Ss ∧ Ss.Perm Rs
theorem Like.same {H H' : Hp} {Rs : List (Gang × Int)} {b : Addr} (s : Same H H') (h : Like H Rs b) : Like H' Rs b := by
  obtain ⟨as, Ss, h1, h2, h3⟩ := h
  exact ⟨as, Ss, s _ _ h1, h2.mono fun _ _ x => x.same s, h3⟩
theorem paired_rev {α β : Type} {R : α → β → Prop} : ∀ {xs : List α} {ys : List β}, Paired R xs ys → Paired R xs.reverse ys.reverse
  | _, _, .nil => .nil
  | x :: xs, y :: ys, .cons r t => by
    rw [List.reverse_cons, List.reverse_cons]
    exact Paired.snoc (paired_rev t) r
end My

namespace My
open PySem PySem.W PySem.Spec PyProof.Rows L2 GX GxR
/-! tables of generator expressions -/
def Tabs (Ts : List Addr) (H : Hp) : Prop := ∀ T ∈ Ts, TabG H T
structure Fw (Ts : List Addr) (H H' : Hp) : Prop where
  kp : Kp Ts H H'
  tabs : Tabs Ts H'
section
variable {Ts : List Addr} {H H1 H2 : Hp}
theorem Fw.refl (t : Tabs Ts H) : Fw Ts H H := ⟨Kp.refl _ _, t⟩
theorem Fw.trans (f : Fw Ts H H1) (g : Fw Ts H1 H2) : Fw Ts H H2 := ⟨f.kp.trans g.kp, g.tabs⟩
theorem Fw.same (t : Tabs Ts H) (s : Same H H1) : Fw Ts H H1 := ⟨Same.kp _ s, fun T h => TabG.same s (t T h)⟩
theorem Fw.then (f : Fw Ts H H1) (s : Same H1 H2) : Fw Ts H H2 := f.trans (Fw.same f.tabs s)
theorem Fw.step (t : Tabs Ts H) {T : Addr} (h : T ∈ Ts) (k : Kp [T] H H1) (g : TabG H1 T) : Fw Ts H H1 := by
  refine ⟨k.mono fun x hx => by rw [List.mem_singleton.mp hx]; exact h, fun T' h' => ?_⟩
  by_cases z : T' = T
  · rw [z]
    exact g
  · exact TabG.kp k (fun q => z (List.mem_singleton.mp q)) (t T' h')
theorem tab_off {x : Addr} {o : HO} (t : Tabs Ts H) (h : H x = some o) (no : ∀ ps, o ≠ .tbl ps) : x ∉ Ts := fun z => tab_ne (t x z) h no rfl
theorem Fw.obj (t : Tabs Ts H) (f : Fw Ts H H1) {x : Addr} {o : HO} (h : H x = some o) (no : ∀ ps, o ≠ .tbl ps) : H1 x = some o := f.kp _ _ (tab_off t h no) h
theorem Fw.lst (t : Tabs Ts H) (f : Fw Ts H H1) {x : Addr} {xs : List V} (h : H x = some (.lst xs)) : H1 x = some (.lst xs) := f.obj t h fun ps z => by cases z
theorem Fw.kt (t : Tabs Ts H) (f : Fw Ts H H1) : KTu H H1 := fun x xs h => f.obj t h fun ps z => by cases z
theorem Fw.free (t : Tabs Ts H) (f : Fw Ts H H1) {x : Addr} (h : H1 x = none) : H x = none := by
  cases e : H x with
  | none => rfl
  | some o =>
    by_cases z : x ∈ Ts
    · obtain ⟨ps, h1, _⟩ := f.tabs x z
      rw [h1] at h
      cases h
    · rw [f.kp _ _ z e] at h
      cases h
theorem Fw.put (t : Tabs Ts H) (f : Fw Ts H H1) {x : Addr} {o : HO} (n : H x = none) : Fw Ts H (upd H1 x o) := by
  have nT : x ∉ Ts := fun z => by
    obtain ⟨ps, h1, _⟩ := t x z
    rw [h1] at n
    cases n
  refine ⟨fun y u ny e => ?_, fun T hT => ?_⟩
  · rw [upd_ne (ne_of_none e n)]
    exact f.kp _ _ ny e
  · obtain ⟨ps, h1, h2⟩ := f.tabs T hT
    exact ⟨ps, by rw [upd_ne (fun z => nT (by rw [← z]; exact hT))]; exact h1, h2⟩
theorem Fw.seqL {K : PySem.W.Frag} (t : Tabs Ts H) (f : Fw Ts H H1) {a : Addr} {xs : List V} (h : SqL K H a xs) : SqL K H1 a xs := by
  rcases h with (h | ⟨o, h⟩) | h
  · exact .inl (.inl (f.lst t h))
  · exact .inl (.inr ⟨o, f.obj t h fun ps z => by cases z⟩)
  · exact .inr h
theorem Fw.seqT {K : PySem.W.Frag} (t : Tabs Ts H) (f : Fw Ts H H1) {a : Addr} {xs : List V} (h : SqT K H a xs) : SqT K H1 a xs := by
  rcases h with (h | ⟨o, h⟩) | h
  · exact .inl (.inl (f.kt t _ _ h))
  · exact .inl (.inr ⟨o, f.obj t h fun ps z => by cases z⟩)
  · exact .inr h
end
/-! a guild's own ones and the lent -/
def fitB (xs ys : List Int) : Bool := (List.zipWith (fun a b : Int => decide (a ≤ b)) xs ys).all _root_.id
theorem zip_bl {g : V → V → V} {op : Int → Int → Bool} (h : ∀ i j, g (.int i) (.int j) = .bl (op i j)) : ∀ xs ys : List Int, (((xs.map V.int).zip (ys.map V.int)).map fun v => g v.1 v.2) = (List.zipWith op xs ys).map V.bl
  | [], _ => rfl
  | _ :: _, [] => rfl
  | x :: xs, y :: ys => by
    show g (.int x) (.int y) :: (((xs.map V.int).zip (ys.map V.int)).map fun v => g v.1 v.2) = .bl (op x y) :: (List.zipWith op xs ys).map V.bl
    rw [h, zip_bl h xs ys]
def spFits (K : PySem.W.Frag) (T : Addr) : Sp := fun vs H Q _ => ∃ (a b : Addr) (xs ys : List Int), vs = [.ref a, .ref b] ∧ SqT K H a (xs.map V.int) ∧ SqT K H b (ys.map V.int) ∧ TabG H T ∧ ∀ H', TabG H' T → Kp [T] H H' → Q (.bl (fitB xs ys)) H'
def addL (xs ys : List Int) : List Int := List.zipWith (· + ·) xs ys
def zeros (n : Nat) : List Int := List.replicate n 0
/-- in turn: own where it fits with those ahead, else lent; and what the own ones come to -/
def partA (dn : List Int) : List Gang → List Gang → List Gang → List Int → List Gang × List Gang × List Int
  | [], o, l, ld => (o, l, ld)
  | G :: Gs, o, l, ld => if fitB (addL ld G.whole) dn = true then partA dn Gs (o ++ [G]) l (addL ld G.whole) else partA dn Gs o (l ++ [G]) ld
def partRs (dn : List Int) (Rs : List (Gang × Int)) : List Gang × List Gang × List Int := partA dn ((ord Rs).map (·.1)) [] [] (zeros dn.length)
theorem partA_step {dn : List Int} {Gs : List Gang} {i : Nat} {G : Gang} {o l : List Gang} {ld : List Int} (h : Gs[i]? = some G) :
    partA dn (Gs.drop i) o l ld = if fitB (addL ld G.whole) dn = true then partA dn (Gs.drop (i + 1)) (o ++ [G]) l (addL ld G.whole) else partA dn (Gs.drop (i + 1)) o (l ++ [G]) ld := by
  obtain ⟨lt, e⟩ := List.getElem?_eq_some_iff.mp h
  rw [List.drop_eq_getElem_cons lt, e]
  rfl
def spGName : Sp := fun vs H Q _ => ∃ (g : Addr) (G : Gang), vs = [.ref g] ∧ GangAt H g G ∧ Q (.str G.name) H
structure PIn (K : PySem.W.Frag) (H : Hp) (du a : Addr) (dn : List Int) (as : List Addr) (Rs : List (Gang × Int)) : Prop where
  due : SqT K H du (dn.map V.int)
  d1 : 1 ≤ dn.length
  d8 : dn.length ≤ 8
  rows : SqL K H a (as.map V.ref)
  prs : Paired (RowAt H) as Rs
  good : Good2 Rs
  wlen : ∀ R ∈ Rs, R.1.want.length = dn.length
def spPartG (K : PySem.W.Frag) (Ts : List Addr) : Sp := fun vs H Q _ => ∃ (du a : Addr) (dn : List Int) (as : List Addr) (Rs : List (Gang × Int)), vs = [.ref du, .ref a] ∧ PIn K H du a dn as Rs ∧ Tabs Ts H ∧
  ∀ t o l e H' os ls, Fw Ts H H' → H t = none → H' t = some (.tup [.ref o, .ref l, .ref e]) → H' o = some (.lst (os.map V.ref)) → H' l = some (.lst (ls.map V.ref)) → Paired (GangAt H') os (partRs dn Rs).1 → Paired (GangAt H') ls (partRs dn Rs).2.1 → H' e = some (.tup ((partRs dn Rs).2.2.map V.int)) → Q (.ref t) H'
def spParted (K : PySem.W.Frag) (Ts : List Addr) : Sp := fun vs H Q _ => ∃ (du a : Addr) (dn : List Int) (as : List Addr) (Rs : List (Gang × Int)), vs = [.ref du, .ref a] ∧ PIn K H du a dn as Rs ∧ Tabs Ts H ∧
  ∀ t o l H', Fw Ts H H' → H t = none → H' t = some (.tup [.ref o, .ref l]) → H o = none → H l = none → o ≠ l → H' o = some (.lst (((partRs dn Rs).1.map (·.name)).map V.str)) → H' l = some (.lst (((partRs dn Rs).2.1.map (·.name)).map V.str)) → Q (.ref t) H'
def spLPart (K : PySem.W.Frag) : Sp := fun vs H Q _ => ∃ (du a : Addr) (dn : List Int) (as : List Addr) (Rs : List (Gang × Int)), vs = [.ref du, .ref a] ∧ PIn K H du a dn as Rs ∧
  ∀ t o l b H', Same H H' → H t = none → H' t = some (.tup [.ref o, .ref l, .ref b]) → H o = none → H l = none → H b = none → H' o = some (.lst (((partRs dn Rs).1.map (·.name)).map V.str)) → H' l = some (.lst (((partRs dn Rs).2.1.map (·.name)).map V.str)) → H' b = some (.lst ((partRs dn Rs).2.2.map V.int)) → Q (.ref t) H'
def spLGuild (K : PySem.W.Frag) : Sp := fun vs H Q _ => ∃ (a : Addr) (as : List Addr) (Rs : List (Gang × Int)) (z : Str), vs = [.ref a, .str z] ∧ SqL K H a (as.map V.ref) ∧ Paired (RowAt H) as Rs ∧ Rs.length ≤ 100 ∧
  ∀ p bs H', Same H H' → H p = none → H' p = some (.lst (bs.map V.ref)) → Paired (RowAt H') bs (Rs.filter fun R => decide (R.1.guild = z)) → Q (.ref p) H'
theorem PIn.same {K : PySem.W.Frag} {H H' : Hp} {du a : Addr} {dn : List Int} {as : List Addr} {Rs : List (Gang × Int)} (s : Same H H') (h : PIn K H du a dn as Rs) : PIn K H' du a dn as Rs :=
  ⟨same_seqT s h.due, h.d1, h.d8, s.seq h.rows, h.prs.mono fun _ _ x => x.same s, h.good, h.wlen⟩
theorem PIn.fw {K : PySem.W.Frag} {Ts : List Addr} {H H' : Hp} {du a : Addr} {dn : List Int} {as : List Addr} {Rs : List (Gang × Int)} (t : Tabs Ts H) (f : Fw Ts H H') (h : PIn K H du a dn as Rs) : PIn K H' du a dn as Rs :=
  ⟨f.seqT t h.due, h.d1, h.d8, f.seqL t h.rows, h.prs.mono fun _ _ x => x.kt (f.kt t), h.good, h.wlen⟩
theorem addL_len {xs ys : List Int} (h : ys.length = xs.length) : (addL xs ys).length = xs.length := by
  unfold addL
  rw [List.length_zipWith, h, Nat.min_self]
theorem whole_len (G : Gang) : G.whole.length = G.want.length := by
  unfold Gang.whole
  rw [List.length_map]
theorem partA_len {dn : List Int} : ∀ (Gs o l : List Gang) (ld : List Int), (partA dn Gs o l ld).1.length + (partA dn Gs o l ld).2.1.length = Gs.length + o.length + l.length
  | [], o, l, ld => by
    show o.length + l.length = 0 + o.length + l.length
    omega
  | G :: Gs, o, l, ld => by
    unfold partA
    split
    · rw [partA_len Gs]
      simp only [List.length_append, List.length_cons, List.length_nil]
      omega
    · rw [partA_len Gs]
      simp only [List.length_append, List.length_cons, List.length_nil]
      omega
theorem partRs_len (dn : List Int) (Rs : List (Gang × Int)) : (partRs dn Rs).1.length + (partRs dn Rs).2.1.length = Rs.length := by
  unfold partRs
  rw [partA_len, List.length_map, (ord_perm Rs).length_eq]
  rfl
theorem partRs_perm (dn : List Int) {Rs Ss : List (Gang × Int)} (h : (Rs.map (·.2)).Nodup) (p : Ss.Perm Rs) : partRs dn Ss = partRs dn Rs := by
  unfold partRs
  rw [ord_perm_eq h p]
end My

set_option maxHeartbeats 1000000
/-! the mathematics of placing -/
namespace My
open PySem PySem.W PySem.Spec PyProof.Rows L2 GX GxR
theorem risingP : ∀ (l : List Str) (p : Str), risingS p l = true → (p :: l).Pairwise (fun a b => a.cps.toList ≤ b.cps.toList)
  | [], p, _ => List.pairwise_singleton _ _
  | x :: r, p, h => by
    have h' : (!ltCps x.cps.toList p.cps.toList && risingS x r) = true := h
    rw [Bool.and_eq_true] at h'
    have ih := risingP r x h'.2
    have px : p.cps.toList ≤ x.cps.toList := by
      have := h'.1
      rw [ltCps_eq] at this
      refine List.not_lt.mp fun z => ?_
      rw [decide_eq_true z] at this
      cases this
    refine List.pairwise_cons.mpr ⟨fun y hy => ?_, ih⟩
    rcases List.mem_cons.mp hy with z | z
    · rw [z]
      exact px
    · exact List.le_trans px ((List.pairwise_cons.mp ih).1 y z)
theorem sortedP {l : List Str} (h : sortedS l = true) : l.Pairwise (fun a b => a.cps.toList ≤ b.cps.toList) := by
  cases l with
  | nil => exact .nil
  | cons x r => exact risingP r x h
theorem ofP {l : List Str} (h : l.Pairwise (fun a b => a.cps.toList ≤ b.cps.toList)) : sortedS l = true := by
  refine SX.sorted_of (h.imp fun {a b} z => ?_)
  rw [ltCps_eq]
  exact decide_eq_false (List.not_lt.mpr z)
theorem strxP {a b : Str} (h : a.cps.toList = b.cps.toList) : a = b := by
  cases a
  cases b
  simp only at h
  rw [Array.toList_inj.mp h]
/-- the texts of L, each once, in order -/
structure YsOf (L ys : List Str) : Prop where
  nd : ys.Nodup
  so : sortedS ys = true
  mem : ∀ y, y ∈ ys ↔ y ∈ L
theorem YsOf.uniq {L L' ys ys' : List Str} (h : YsOf L ys) (h' : YsOf L' ys') (e : ∀ y, y ∈ L ↔ y ∈ L') : ys = ys' := by
  have p : ys.Perm ys' := (List.perm_ext_iff_of_nodup h.nd h'.nd).mpr fun y => by rw [h.mem, h'.mem, e]
  have so : ∀ {zs : List Str}, sortedS zs = true → zs.Pairwise (fun a b => (fun a b : Str => decide (a.cps.toList ≤ b.cps.toList)) a b = true) := fun {zs} hs => (sortedP hs).imp fun z => decide_eq_true z
  exact uniq_sorted (le := fun a b : Str => decide (a.cps.toList ≤ b.cps.toList)) p (so h.so) (so h'.so) fun a ha b hb q1 q2 => strxP (List.le_antisymm (of_decide_eq_true q1) (of_decide_eq_true q2))
theorem YsOf.filter {L L' ys : List Str} (p : Str → Bool) (h : YsOf L ys) (e : ∀ y, y ∈ L' ↔ y ∈ L ∧ p y = true) : YsOf L' (ys.filter p) :=
  ⟨h.nd.filter p, ofP ((sortedP h.so).filter p), fun y => by rw [List.mem_filter, h.mem, e]⟩
/-- how many tasks some pairs have together: the pairs of a list or of a tuple -/
def tasksOf (ps : List (Str × Int)) : Int := (ps.map (·.2)).sum
theorem sum_le : ∀ (ns : List Int), (∀ x ∈ ns, 0 ≤ x ∧ x ≤ 1000000000000) → 0 ≤ ns.sum ∧ ns.sum ≤ 1000000000000 * (ns.length : Int)
  | [], _ => by simp
  | n :: ns, h => by
    obtain ⟨h1, h2⟩ := sum_le ns fun x hx => h x (List.mem_cons_of_mem _ hx)
    have h3 := h n List.mem_cons_self
    rw [List.sum_cons, List.length_cons]
    constructor <;> omega
/-- one house more takes what it can -/
def fillStep (a : List (Str × Int) × Int) (q : Str × Int) : List (Str × Int) × Int := if 0 < min q.2 a.2 then (a.1 ++ [(q.1, min q.2 a.2)], a.2 - min q.2 a.2) else a
def fillAll (many : Int) (ps : List (Str × Int)) : List (Str × Int) × Int := ps.foldl fillStep ([], many)
theorem fill_len : ∀ (ps : List (Str × Int)) (a : List (Str × Int) × Int), (ps.foldl fillStep a).1.length ≤ a.1.length + ps.length
  | [], a => Nat.le_refl _
  | q :: ps, a => by
    have h := fill_len ps (fillStep a q)
    have h2 : (fillStep a q).1.length ≤ a.1.length + 1 := by
      unfold fillStep
      split
      · rw [List.length_append]; exact Nat.le_refl _
      · exact Nat.le_succ _
    show (ps.foldl fillStep (fillStep a q)).1.length ≤ a.1.length + (ps.length + 1)
    omega
def firstFor (many : Int) : List (List (Str × Int)) → List (Str × Int)
  | [] => []
  | ps :: r => if many ≤ tasksOf ps then ps else firstFor many r
theorem firstFor_skip {many : Int} : ∀ (gs : List (List (Str × Int))) (i : Nat), (∀ ps ∈ gs.take i, ¬ many ≤ tasksOf ps) → firstFor many gs = firstFor many (gs.drop i)
  | gs, 0, _ => rfl
  | [], i + 1, _ => rfl
  | ps :: gs, i + 1, h => by
    show (if many ≤ tasksOf ps then ps else firstFor many gs) = firstFor many (gs.drop i)
    rw [if_neg (h ps List.mem_cons_self)]
    exact firstFor_skip gs i fun x hx => h x (List.mem_cons_of_mem _ hx)
/-- the pairs of a yard -/
def ofY (yd : Str → Str) (ps : List (Str × Int)) (y : Str) : List (Str × Int) := ps.filter fun q => decide (yd q.1 = y)
def groupsY (yd : Str → Str) (ps : List (Str × Int)) (ys : List Str) : List (List (Str × Int)) := ys.map (ofY yd ps)
/-- those that can take one -/
def posP (ps : List (Str × Int)) : List (Str × Int) := ps.filter fun q => decide (0 < q.2)
def firstsOf (gs : List (List (Str × Int))) : List (Str × Int) := gs.flatMap fun g => (posP g).take 1
def toFill (how : Str) (many : Int) (yd : Str → Str) (ys : List Str) (ps : List (Str × Int)) : List (Str × Int) :=
  if how = "near" then firstFor many (groupsY yd ps ys) else if how = "wide" then firstsOf (groupsY yd ps ys) else ps
def placeOf (many : Int) (ps : List (Str × Int)) : Option (List (Str × Int)) := if 0 < (fillAll many ps).2 then none else some (fillAll many ps).1
/-! the law's own -/
def dueStep (a : List (Str × Int) × Int) (q : Str × Int) : List (Str × Int) × Int := (if 0 < a.2 then a.1 ++ [(q.1, min q.2 a.2)] else a.1, a.2 - q.2)
def dueFill (many : Int) (row : List (Str × Int)) : List (Str × Int) × Int := row.foldl dueStep ([], many)
def dueOf15 (many : Int) : List (List (Str × Int)) → Option (List (Str × Int))
  | [] => none
  | r :: rs => if (dueFill many r).2 ≤ 0 then some (dueFill many r).1 else dueOf15 many rs
theorem due_skip {many : Int} : ∀ (gs : List (List (Str × Int))) (i : Nat), (∀ r ∈ gs.take i, ¬ (dueFill many r).2 ≤ 0) → dueOf15 many gs = dueOf15 many (gs.drop i)
  | gs, 0, _ => rfl
  | [], i + 1, _ => rfl
  | r :: gs, i + 1, h => by
    show (if (dueFill many r).2 ≤ 0 then some (dueFill many r).1 else dueOf15 many gs) = dueOf15 many (gs.drop i)
    rw [if_neg (h r List.mem_cons_self)]
    exact due_skip gs i fun x hx => h x (List.mem_cons_of_mem _ hx)
theorem posP_cons (q : Str × Int) (ps : List (Str × Int)) : posP (q :: ps) = if 0 < q.2 then q :: posP ps else posP ps := by
  unfold posP
  rw [List.filter_cons]
  simp only [decide_eq_true_eq]
theorem fill_due_aux : ∀ (ps l : List (Str × Int)) (w : Int), (∀ q ∈ ps, 0 ≤ q.2) →
    ps.foldl fillStep (l, max 0 w) = (((posP ps).foldl dueStep (l, w)).1, max 0 ((posP ps).foldl dueStep (l, w)).2)
  | [], l, w, _ => rfl
  | q :: ps, l, w, h => by
    have h0 := h q List.mem_cons_self
    have ih := fun l w => fill_due_aux ps l w fun x hx => h x (List.mem_cons_of_mem _ hx)
    rw [posP_cons]
    by_cases hq : 0 < q.2
    · rw [if_pos hq, List.foldl_cons, List.foldl_cons]
      have e : fillStep (l, max 0 w) q = ((dueStep (l, w) q).1, max 0 (dueStep (l, w) q).2) := by
        unfold fillStep dueStep
        simp only
        by_cases hw : 0 < w
        · rw [if_pos (by omega), if_pos hw, show max 0 w = w by omega]
          congr 1
          omega
        · rw [if_neg (by omega), if_neg hw]
          congr 1
          omega
      rw [e]
      exact ih _ _
    · rw [if_neg hq, List.foldl_cons]
      have e : fillStep (l, max 0 w) q = (l, max 0 w) := by
        unfold fillStep
        simp only
        rw [if_neg (by omega)]
      rw [e]
      exact ih l w
theorem fill_due {many : Int} {ps : List (Str × Int)} (hm : 0 ≤ many) (h : ∀ q ∈ ps, 0 ≤ q.2) : fillAll many ps = ((dueFill many (posP ps)).1, max 0 (dueFill many (posP ps)).2) := by
  have e := fill_due_aux ps [] many h
  rw [show max 0 many = many by omega] at e
  exact e
theorem due_left : ∀ (row l : List (Str × Int)) (w : Int), (row.foldl dueStep (l, w)).2 = w - tasksOf row
  | [], l, w => by show w = w - 0; omega
  | q :: row, l, w => by
    rw [List.foldl_cons]
    have := due_left row (dueStep (l, w) q).1 (dueStep (l, w) q).2
    rw [show dueStep (l, w) q = ((dueStep (l, w) q).1, (dueStep (l, w) q).2) from rfl, this]
    show w - q.2 - tasksOf row = w - tasksOf (q :: row)
    unfold tasksOf
    rw [List.map_cons, List.sum_cons]
    omega
theorem tasks_pos : ∀ (ps : List (Str × Int)), (∀ q ∈ ps, 0 ≤ q.2) → tasksOf (posP ps) = tasksOf ps
  | [], _ => rfl
  | q :: ps, h => by
    have h0 := h q List.mem_cons_self
    have ih := tasks_pos ps fun x hx => h x (List.mem_cons_of_mem _ hx)
    rw [posP_cons]
    unfold tasksOf at ih ⊢
    by_cases hq : 0 < q.2
    · rw [if_pos hq, List.map_cons, List.sum_cons, List.map_cons, List.sum_cons, ih]
    · rw [if_neg hq, List.map_cons, List.sum_cons, ih]
      omega
theorem place_due {many : Int} {ps : List (Str × Int)} (hm : 0 ≤ many) (h : ∀ q ∈ ps, 0 ≤ q.2) : placeOf many ps = if (dueFill many (posP ps)).2 ≤ 0 then some (dueFill many (posP ps)).1 else none := by
  unfold placeOf
  rw [fill_due hm h]
  simp only
  by_cases z : (dueFill many (posP ps)).2 ≤ 0
  · rw [if_neg (by omega), if_pos z]
  · rw [if_pos (by omega), if_neg z]
theorem due_anyP {many : Int} {ps : List (Str × Int)} (hm : 0 ≤ many) (h : ∀ q ∈ ps, 0 ≤ q.2) : dueOf15 many [posP ps] = placeOf many ps := by
  rw [place_due hm h]
  rfl
theorem ofY_pos (yd : Str → Str) (ps : List (Str × Int)) (y : Str) : ofY yd (posP ps) y = posP (ofY yd ps y) := by
  unfold ofY posP
  rw [List.filter_filter, List.filter_filter]
  congr 1
  funext q
  rw [Bool.and_comm]
theorem ofY_nn {yd : Str → Str} {ps : List (Str × Int)} {y : Str} (h : ∀ q ∈ ps, 0 ≤ q.2) : ∀ q ∈ ofY yd ps y, 0 ≤ q.2 := fun q hq => h q (List.mem_filter.mp hq).1
/-- there is one that can take one in the yard -/
def hasY (yd : Str → Str) (ps : List (Str × Int)) (y : Str) : Bool := !(ofY yd (posP ps) y).isEmpty
theorem hasY_no {yd : Str → Str} {ps : List (Str × Int)} {y : Str} (h : ¬ hasY yd ps y = true) : ofY yd (posP ps) y = [] := by
  unfold hasY at h
  simpa using h
theorem due_nearP {yd : Str → Str} {many : Int} {ps : List (Str × Int)} (hm : 0 < many) (h : ∀ q ∈ ps, 0 ≤ q.2) : ∀ ys : List Str, dueOf15 many ((ys.filter (hasY yd ps)).map (ofY yd (posP ps))) = placeOf many (firstFor many (groupsY yd ps ys))
  | [] => by
    show none = placeOf many []
    unfold placeOf
    rw [if_pos (show 0 < (fillAll many []).2 from hm)]
  | y :: ys => by
    have ih := due_nearP (yd := yd) hm h ys
    have hn := ofY_nn (yd := yd) (y := y) h
    show _ = placeOf many (if many ≤ tasksOf (ofY yd ps y) then ofY yd ps y else firstFor many (groupsY yd ps ys))
    rw [List.filter_cons]
    by_cases hy : hasY yd ps y = true
    · rw [if_pos hy, List.map_cons]
      show (if (dueFill many (ofY yd (posP ps) y)).2 ≤ 0 then some (dueFill many (ofY yd (posP ps) y)).1 else dueOf15 many _) = _
      rw [ofY_pos]
      have e : (dueFill many (posP (ofY yd ps y))).2 = many - tasksOf (ofY yd ps y) := by
        unfold dueFill
        rw [due_left, tasks_pos _ hn]
      by_cases z : many ≤ tasksOf (ofY yd ps y)
      · rw [if_pos z, place_due (by omega) hn, if_pos (by omega), if_pos (by omega)]
      · rw [if_neg z, if_neg (by omega), ih]
    · rw [if_neg hy]
      have e := hasY_no hy
      rw [ofY_pos] at e
      have e2 := tasks_pos _ hn
      rw [e] at e2
      have e3 : tasksOf (ofY yd ps y) = 0 := e2.symm
      rw [if_neg (by omega), ih]
/-- the first one of a yard, with one task -/
def fsW (yd : Str → Str) (ps : List (Str × Int)) (y : Str) : Str × Int := (((ofY yd (posP ps) y).headD ((Str.ofString ""), 0)).1, 1)
theorem firsts_wide {yd : Str → Str} {ps : List (Str × Int)} (h1 : ∀ q ∈ ps, q.2 ≤ 1) : ∀ ys : List Str, firstsOf (groupsY yd ps ys) = (ys.filter (hasY yd ps)).map (fsW yd ps)
  | [] => rfl
  | y :: ys => by
    have ih := firsts_wide (yd := yd) h1 ys
    show (posP (ofY yd ps y)).take 1 ++ firstsOf (groupsY yd ps ys) = _
    rw [List.filter_cons, ih, ← ofY_pos]
    by_cases hy : hasY yd ps y = true
    · rw [if_pos hy, List.map_cons]
      unfold fsW
      cases e : ofY yd (posP ps) y with
      | nil =>
        unfold hasY at hy
        rw [e] at hy
        cases hy
      | cons q r =>
        have hq : q ∈ ofY yd (posP ps) y := by rw [e]; exact List.mem_cons_self
        have hq2 := (List.mem_filter.mp hq).1
        have hq3 := List.mem_filter.mp hq2
        have a1 := h1 q hq3.1
        have a2 : 0 < q.2 := of_decide_eq_true hq3.2
        have e2 : q.2 = 1 := by omega
        show [q] ++ _ = (q.1, 1) :: _
        rw [← e2]
        rfl
    · rw [if_neg hy, hasY_no hy]
      rfl
theorem posP_all {ps : List (Str × Int)} (h : ∀ q ∈ ps, 0 < q.2) : posP ps = ps := List.filter_eq_self.mpr fun q hq => decide_eq_true (h q hq)
theorem due_wideP {yd : Str → Str} {many : Int} {ps : List (Str × Int)} (hm : 0 < many) (h1 : ∀ q ∈ ps, q.2 ≤ 1) (ys : List Str) : dueOf15 many [(ys.filter (hasY yd ps)).map (fsW yd ps)] = placeOf many (firstsOf (groupsY yd ps ys)) := by
  rw [firsts_wide h1]
  have hp : ∀ q ∈ (ys.filter (hasY yd ps)).map (fsW yd ps), 0 < q.2 := fun q hq => by
    obtain ⟨y, _, rfl⟩ := List.mem_map.mp hq
    show (0 : Int) < 1
    decide
  have := due_anyP (many := many) (by omega) fun q hq => Int.le_of_lt (hp q hq)
  rw [posP_all hp] at this
  exact this
/-- the first ones of the yards, as they come -/
def fsStep (yd : Str → Str) (fs : List (Str × Str)) (q : Str × Int) : List (Str × Str) := if yd q.1 ∈ fs.map (·.1) then fs else fs ++ [(yd q.1, q.1)]
def fsAll (yd : Str → Str) (ps : List (Str × Int)) : List (Str × Str) := ps.foldl (fsStep yd) []
theorem fs_snoc (yd : Str → Str) (ps : List (Str × Int)) (q : Str × Int) : fsAll yd (ps ++ [q]) = fsStep yd (fsAll yd ps) q := by
  unfold fsAll
  rw [List.foldl_append]
  rfl
theorem ofY_snoc (yd : Str → Str) (ps : List (Str × Int)) (q : Str × Int) (y : Str) : ofY yd (ps ++ [q]) y = ofY yd ps y ++ if yd q.1 = y then [q] else [] := by
  unfold ofY
  rw [List.filter_append, List.filter_cons]
  simp only [decide_eq_true_eq]
  rfl
theorem fs_is (yd : Str → Str) (ps : List (Str × Int)) : ∀ i, i ≤ ps.length → ((fsAll yd (ps.take i)).map (·.1)).Nodup ∧ (fsAll yd (ps.take i)).length ≤ i ∧ (∀ y, y ∈ (fsAll yd (ps.take i)).map (·.1) ↔ ofY yd (ps.take i) y ≠ []) ∧ ∀ f ∈ fsAll yd (ps.take i), ((ofY yd (ps.take i) f.1).headD ((Str.ofString ""), 0)).1 = f.2
  | 0, _ => by
    rw [List.take_zero]
    exact ⟨.nil, Nat.le_refl _, (fun y => ⟨(fun h => by cases h), (fun h => absurd rfl h)⟩), (fun f h => by cases h)⟩
  | i + 1, hi => by
    obtain ⟨h1, h0, h2, h3⟩ := fs_is yd ps i (by omega)
    have hlt : i < ps.length := by omega
    have e : ps.take (i + 1) = ps.take i ++ [ps[i]] := by rw [List.take_add_one, List.getElem?_eq_getElem hlt]; rfl
    rw [e, fs_snoc]
    generalize ps.take i = pt at h1 h2 h3 h0 ⊢
    generalize ps[i] = q
    unfold fsStep
    by_cases hm : yd q.1 ∈ (fsAll yd pt).map (·.1)
    · rw [if_pos hm]
      refine ⟨h1, by omega, fun y => ?_, fun f hf => ?_⟩
      · rw [h2, ofY_snoc]
        by_cases hy : yd q.1 = y
        · rw [if_pos hy]
          have := (h2 y).mp (by rw [← hy]; exact hm)
          exact ⟨fun _ => by simp, fun _ => this⟩
        · rw [if_neg hy, List.append_nil]
      · rw [← h3 f hf, ofY_snoc]
        have := (h2 f.1).mp (List.mem_map.mpr ⟨f, hf, rfl⟩)
        cases ez : ofY yd pt f.1 with
        | nil => exact absurd ez this
        | cons a r => rfl
    · rw [if_neg hm]
      have hno : ofY yd pt (yd q.1) = [] := by
        cases ez : ofY yd pt (yd q.1) with
        | nil => rfl
        | cons a r => exact absurd ((h2 _).mpr (by rw [ez]; exact List.cons_ne_nil _ _)) hm
      refine ⟨?_, by rw [List.length_append]; simp only [List.length_cons, List.length_nil]; omega, fun y => ?_, fun f hf => ?_⟩
      · rw [List.map_append, List.nodup_append]
        refine ⟨h1, by simp, fun a ha b hb => ?_⟩
        have : b = yd q.1 := by simpa using hb
        rw [this]
        exact fun z => hm (by rw [← z]; exact ha)
      · rw [List.map_append, List.mem_append, h2, ofY_snoc]
        by_cases hy : yd q.1 = y
        · rw [if_pos hy]
          exact ⟨fun _ => by simp, fun _ => .inr (by simp [hy])⟩
        · rw [if_neg hy, List.append_nil]
          exact ⟨fun z => z.elim _root_.id fun z => absurd (by simpa using z) (fun z' : y = yd q.1 => hy z'.symm), .inl⟩
      · rw [ofY_snoc]
        rcases List.mem_append.mp hf with z | z
        · rw [← h3 f z]
          have := (h2 f.1).mp (List.mem_map.mpr ⟨f, z, rfl⟩)
          cases ez : ofY yd pt f.1 with
          | nil => exact absurd ez this
          | cons a r => rfl
        · have z : f = (yd q.1, q.1) := by simpa using z
          rw [z]
          show ((ofY yd pt (yd q.1) ++ if yd q.1 = yd q.1 then [q] else []).headD _).1 = q.1
          rw [hno, if_pos rfl]
          rfl
end My

set_option maxHeartbeats 2000000
namespace GW
open PySem PySem.Spec PyProof.Rows L2 GxR GenW
/-! a generator expression whose element may call defs and lay new things -/
/-- the frame of a generator expression -/
abbrev gxEnv (X : Cx) (scope : Scope) (C : Addr) (code : Value) : Env := genEnv scope (cloFrom X.env.cells scope.names []) C code builtinsNs X.env
/-- its context: fp are the walked iterator's own objects, pn what stands -/
def gx (X : Cx) (N : List Str) (scope : Scope) (C : Addr) (code : Value) (A : Around) (s : Shared) (H : Hp) (fp : List Addr) (pn : List (Addr × Obj)) : Cx :=
  { prog := X.prog, w := X.w, K := X.K, mg := X.mg, base := X.base, A := A.deeper (gxEnv X scope C code), N := N, s_0 := s, H_0 := H, env := gxEnv X scope C code, outer := X.stack, stack := gxEnv X scope C code :: X.stack,
    ex := fp, fn := fun _ => false, calm := true, pn := pn, xe := fun _ _ => False }
theorem over_gx {A : Around} {elt : Expr} {gs : List Comprehension} {scope : Scope} {pos : Pos} {it acc : Value} {env : Env} : A.over (.compLoop (.GeneratorExp elt gs scope pos) 0 it acc env) [] = A.deeper env := by
  first
    | rfl
    | (obtain ⟨hd, d, fr, gs, u⟩ := A; simp [Around.over, Around.deeper, marksOver, frameCount, unitsOf, envsOf, guardsOf, pushEnvs, pushGuards, Code.envs, Code.env?, Code.isFrame, Code.guards, Code.isGuard, Code.weight, Code.frames, Code.isCreation, Code.isCaller, Code.cUnits])
theorem over_gx0 {A : Around} {elt : Expr} {gs : List Comprehension} {scope : Scope} {pos : Pos} {it acc : Value} {env : Env} : A.over (.compStart (.GeneratorExp elt gs scope pos) 0 it acc env) [] = A.deeper env := by
  first
    | rfl
    | (obtain ⟨hd, d, fr, gs, u⟩ := A; simp [Around.over, Around.deeper, marksOver, frameCount, unitsOf, envsOf, guardsOf, pushEnvs, pushGuards, Code.envs, Code.env?, Code.isFrame, Code.guards, Code.isGuard, Code.weight, Code.frames, Code.isCreation, Code.isCaller, Code.cUnits])
/-- the walk's end -/
def GEx (X : Cx) (S : Addr) (cont : List V → Hp → Prop) : GenEnd := fun n s₀ r s => r = .ok .next ∧ ∃ ys ip σ H, n + ys.length = sizeLine ∧ GI X S ip ys σ H s ∧ cont ys H
/-- a turn of the walk -/
def Turns (J : It) (g : TG) (te : TE) (vs : List Nat) (σ' : L2.St) (cont : List V → Hp → Prop) (W : Nat → Nat → List V → Hp → Prop) : Prop :=
  ∀ i m ys H, W i m ys H → (J.stop i H ∧ cont ys H) ∨ (J.go i H ∧ ys.length < sizeLine ∧ ∀ x H', J.yld i H x H' → g x σ' H' fun σb H2 => wipe σb vs = σ' ∧ te σb H2 fun y H3 => ∃ m', m' < m ∧ W (i + 1) m' (ys ++ [y]) H3)
section
variable {X Y : Cx} {N : List Str} {scope : Scope} {it : Addr} {A : Around} {fp : List Addr} {tg iter elt : Expr} {gpos : Pos} {J : It} {tn : Nat → Heap → Prop} {g : TG} {te : TE} {vs : List Nat} {σ' : L2.St} {cont : List V → Hp → Prop} {S : Addr} {W : Nat → Nat → List V → Hp → Prop}
theorem seg_turns (hd : Y.A.handled = none) (hA : A.deeper Y.env = Y.A) (hcalm : Y.calm = true) (hxe : ∀ e s, ¬ Y.xe e s) (hsc : Y.env.scope = scope) (hco : scope.isCoroutine = false) (T : Turn Y.prog Y.w Y.K tg J fp it tn) (hg : PG Y tg g) (he : PE Y elt te)
    (hpn : ∀ p ∈ Y.pn, p.1 ≠ S) (hS : S ∉ fp) (hap : Apart Y S) (hex : ∀ b ∈ fp, b ∈ Y.ex) (hfp : ∀ b ∈ fp, b ≠ Y.env.locals ∧ b ∉ Y.fs ∧ (∀ x c, Y.env.cells.lookup x = some c → c ≠ b) ∧ ∀ p ∈ Y.pn, p.1 ≠ b)
    (turn : Turns J g te vs σ' cont W) :
    ∀ (m i n : Nat) (ys : List V) (s₀ s : Shared) (H : Hp), n + ys.length = sizeLine → W i m ys H → GI Y S [] ys σ' H s → tn i s.heap → (∀ b ∈ fp, H b = none) →
      Seg (model Y.prog Y.w) A (GEx Y S cont) (GY Y S) n s₀ (.compLoop (.GeneratorExp elt [⟨tg, iter, [], 0⟩] scope gpos) 0 (.ref it) .none Y.env)
        ((model Y.prog Y.w).den (.compLoop (.GeneratorExp elt [⟨tg, iter, [], 0⟩] scope gpos) 0 (.ref it) .none Y.env)) [] s := by
  have fok : ∀ {acc : Array Value} {c : Nat} {H : Hp}, (∀ b ∈ fp, H b = none) → ∀ b ∈ fp, FpOk Y [(S, lstObj acc c)] H b := fun {acc c H} hn b hb => by
    obtain ⟨q1, q2, q3, q4⟩ := hfp b hb
    refine ⟨hn b hb, q1, q2, .inl (hex b hb), q3, fun p hp => ?_⟩
    rcases List.mem_append.mp hp with z | z
    · exact q4 p z
    · rw [List.mem_singleton.mp z]
      exact fun e => hS (by rw [show S = b from e]; exact hb)
  intro m
  induction m using Nat.strongRecOn with
  | ind m ih =>
  intro i n ys s₀ s H hn hw hI hst hf
  show Seg _ A _ _ _ s₀ _ ((compTurn (.GeneratorExp elt [⟨tg, iter, [], 0⟩] scope gpos) 0 (.ref it) .none Y.env).onRaise (leaving Y.env)) [] s
  rw [compTurn_gen, Sem.onRaise_eq_wrap]
  refine seg_bind_wrap (wpAny_standAt ?_)
  obtain ⟨acc, c, r, I⟩ := hI
  rcases turn i m ys H hw with ⟨stop, hc⟩ | ⟨go, hlt, step⟩
  · refine seg_bind_wrap ?_
    rw [over_gx, hA]
    refine wpAny_mono (T.done Y rfl rfl rfl hcalm i _ s σ' H Y.xe I (fok hf) hst stop) (fun rr s4 ⟨hr, I4⟩ => ?_) fun e s' hx => (hxe e s' hx).elim
    subst hr
    exact seg_end (.ok .next) ⟨rfl, ys, [], σ', H, hn, ⟨acc, c, r, I4⟩, hc⟩
  · obtain ⟨n, rfl⟩ : ∃ k, n = k + 1 := ⟨n - 1, by omega⟩
    refine seg_bind_wrap ?_
    rw [over_gx, hA]
    refine wpAny_mono (T.item Y rfl rfl rfl hcalm i _ s σ' H Y.xe I (fok hf) hst go) (fun rr s4 ⟨u, hr, h4⟩ => ?_) fun e s' hx => (hxe e s' hx).elim
    subst hr
    refine seg_bind_wrap ?_
    rw [over_gx, hA]
    refine wpAny_mono h4 (fun _ s5 ⟨x, H5, I5, r5, y5, st5, fr5⟩ => ?_) fun e s' hx => (hxe e s' hx).elim
    have I5' := I5.pinned (fok fr5) (T.obj _ _ st5)
    refine seg_bind_wrap ?_
    rw [over_gx, hA]
    refine wpAny_mono (hg.run _ s5 σ' H5 x u _ I5' r5 (step x H5 y5)) (fun _ s6 ⟨σ6, H6, I6, hwp, q6⟩ => ?_) fun e s' hx => (hxe e s' hx).elim
    simp only [List.forIn_nil]
    refine seg_bind_wrap (wpAny_pure ?_)
    simp only [if_true]
    have hy : ∀ v, yieldOut Y.env v = yieldValue v := fun v => by simp only [yieldOut, hsc, hco, Bool.false_eq_true, if_false]
    simp only [hy]
    rw [Sem.bind_eq_wrap', Sem.bind_eq_wrap', Sem.wrap_wrap, Sem.wrap_wrap]
    refine seg_wrap ?_
    rw [over_gx, hA]
    refine wpAny_mono (he.run _ s6 σ6 H6 _ I6 q6) (fun v s7 ⟨y, H7, I7, r7, m', hm', w7⟩ => ?_) fun e s' hx => (hxe e s' hx).elim
    have G7 : GI Y S (pinsAt fp s5.heap) ys σ6 H7 s7 := ⟨acc, c, r, I7⟩
    have hip : ∀ p ∈ pinsAt fp s5.heap, p.1 ≠ S := fun p hp e => hS (by rw [← e]; exact (of_pinsAt hp).1)
    refine seg_at (seg_yield rfl rfl rfl ⟨ys, y, pinsAt fp s5.heap, σ6, H7, hn, r7, G7, fun s8 z => ?_⟩)
    have G8 := G7.woken hpn hip hap r7 z
    obtain ⟨acc8, c8, r8, I8⟩ := G8
    have pin8 : ∀ b ∈ fp, ∀ o, s5.heap.get? b = some o → s8.heap.get? b = some o ∧ H7 b = none := fun b hb o e => by
      have q := I8.pin (b, o) (List.mem_append_right _ (List.mem_cons_of_mem _ (mem_pinsAt hb e)))
      exact ⟨q.1, q.2.1⟩
    refine seg_again rfl (ih m' hm' (i + 1) n (ys ++ [y]) s8 s8 H7 (by rw [List.length_append, List.length_singleton]; omega) w7 ⟨acc8, c8, r8, ?_⟩ (T.keep _ _ _ st5 fun b hb o e => (pin8 b hb o e).1) fun b hb => ?_)
    · have I9 : Inv Y [(S, lstObj acc8 c8)] σ6 H7 s8 := I8.pins_of fun p hp => I8.pin p (List.mem_append_right _ (by rw [List.mem_singleton.mp hp]; exact List.mem_cons_self))
      refine I9.weak (by rw [← hwp, wipe_length]) fun j v' e => ?_
      rw [← hwp] at e
      exact (wipe_some e).1
    · obtain ⟨o, e, _⟩ := T.obj _ _ st5 b hb
      exact (pin8 b hb o e).2
theorem seg_begin (hd : Y.A.handled = none) (hA : A.deeper Y.env = Y.A) (T : Turn Y.prog Y.w Y.K tg J fp it tn) {R : GenEnd} {Yp : Protocol} {n : Nat} {s₀ s : Shared} (hst : tn 0 s.heap)
    (loop : Seg (model Y.prog Y.w) A R Yp n s₀ (.compLoop (.GeneratorExp elt [⟨tg, iter, [], 0⟩] scope gpos) 0 (.ref it) .none Y.env) ((model Y.prog Y.w).den (.compLoop (.GeneratorExp elt [⟨tg, iter, [], 0⟩] scope gpos) 0 (.ref it) .none Y.env)) [] s) :
    Seg (model Y.prog Y.w) A R Yp n s₀ (.compStart (.GeneratorExp elt [⟨tg, iter, [], 0⟩] scope gpos) 0 (.ref it) .none Y.env) ((model Y.prog Y.w).den (.compStart (.GeneratorExp elt [⟨tg, iter, [], 0⟩] scope gpos) 0 (.ref it) .none Y.env)) [] s := by
  show Seg _ A _ _ _ s₀ _ ((compStart (.GeneratorExp elt [⟨tg, iter, [], 0⟩] scope gpos) 0 (.ref it) .none Y.env).onRaise (leaving Y.env)) [] s
  unfold compStart
  rw [Sem.onRaise_eq_wrap]
  show Seg _ A _ _ _ s₀ _ ((ask >>= _).wrap _ _ _ _) [] s
  refine seg_bind_wrap (wpAny_askSetting ?_)
  split
  · exact seg_again rfl loop
  · first
      | exact seg_bind_wrap (wpAny_rule (seg_bind_wrap (wpAny_standAt (seg_bind_wrap (T.self _ 0 s _ _ hst (seg_again rfl loop))))))
      | (refine seg_bind_wrap (wpAny_rule ?_); show Seg _ A _ _ _ s₀ _ ((standAt iter.pos >>= _).wrap _ _ _ _) [] s; exact seg_bind_wrap (wpAny_standAt (seg_bind_wrap (T.self _ 0 s _ _ hst (seg_again rfl loop)))))
end
/-- what the scope of a generator expression is, within a def of the scope sc -/
structure GxV (sc scope : Scope) : Prop where
  kind : scope.kind = .function
  co : scope.isCoroutine = false
  cell : ∀ y ∈ scope.names, y.2 ≠ .cell
  dot : scope.names.lookup (".0" : Str) = some NameKind.local
  free : ∀ y ∈ scope.names, y.2 = .free → sc.names.lookup y.1 = some .cell ∨ sc.names.lookup y.1 = some .free
theorem clo_of {cells : List (Str × Addr)} {names : List (Str × NameKind)} {x : Str} {c : Addr} (hf : ∀ y ∈ names, y.2 = .free → ∃ c, cells.lookup y.1 = some c) (h : (cloFrom cells names []).lookup x = some c) : cells.lookup x = some c := by
  rcases cloFrom_mem (PySem.mem_of_lookup h) with z | ⟨z, e⟩
  · cases z
  · obtain ⟨c', e'⟩ := hf _ z rfl
    have e' : cells.lookup x = some c' := e'
    rw [e'] at e
    rw [e', e]
    rfl
theorem clo_to {cells : List (Str × Addr)} {names : List (Str × NameKind)} {x : Str} (h : names.lookup x = some .free) : ∃ c, (cloFrom cells names []).lookup x = some c :=
  mem_lookup (cloFrom_has (PySem.mem_of_lookup h))
def tGx (P : Addr) (wi : TI) (g : TG) (te : TE) (vs : List Nat) (fs : L2.St → L2.St) : TGen := fun σ H cont => wi σ H fun J H1 => TabG H1 P ∧ ∀ H2, Tabbed P H1 H2 → ∃ W : Nat → Nat → List V → Hp → Prop, (∃ m, W 0 m [] H2) ∧ Turns J g te vs (fs σ) cont W
section
variable {X : Cx} {N : List Str} {scope : Scope} {tg iter elt : Expr} {gpos : Pos} {g : TG} {te : TE} {vs : List Nat} {wi : TI} {fs : L2.St → L2.St} {c P : Addr} {k : Nat} {E : XK}
theorem pgen_gx (hr : Room 1 X.A) (TB : TabB X.base X.mg c P) (hcode : X.env.code = .ref c) (S : GxV X.env.scope scope) (hi : PI X tg iter wi)
    (hfs : ∀ (σ : L2.St) (i : Nat) (x : Str) (v : V), N[i]? = some x → (fs σ)[i]? = some (some v) → scope.names.lookup x = some .free ∧ ∃ j : Nat, X.N[j]? = some x ∧ σ[j]? = some (some v))
    (hlen : ∀ σ, (fs σ).length = N.length)
    (hg : ∀ C code A s H fp pn, Room k (A.deeper (gxEnv X scope C code)) → PG (gx X N scope C code A s H fp pn) tg g)
    (he : ∀ C code A s H fp pn, Room k (A.deeper (gxEnv X scope C code)) → PE (gx X N scope C code A s H fp pn) elt te)
    (hs : ∀ v, genFold iter X.env v = pure v) : PGen X (k + 1) (.GeneratorExp elt [⟨tg, iter, [], 0⟩] scope gpos) (tGx P wi g te vs fs) E := by
  refine ⟨fun pins s σ H cont I h => ?_⟩
  have hfree : ∀ y ∈ scope.names, y.2 = .free → ∃ c, X.env.cells.lookup y.1 = some c := fun y hy e => by
    rcases S.free y hy e with z | z
    · exact I.ok.has _ (.inl z)
    · exact I.ok.has _ (.inr z)
  refine wpAny_GeneratorExp_make S.co (closure_ok hfree) S.cell S.dot S.kind (by have := hr.dp; omega) ?_ hs
  refine thn (hi.run pins s σ H _ I h) fun xv s1 h1 => thn h1 fun itv s2 hP => ?_
  obtain ⟨it, fp, tn, J, H1, rfl, I2, T, st2, f2, ⟨ps, hPt, ht⟩, hrest⟩ := hP
  refine ⟨I2.nolimit, ?_⟩
  have tabS : s2.heap.get? P = some { cls := .none, data := .fields ps } := I2.hok P _ hPt
  have cd : PySem.W.CodeHd s2.heap c P := TB.code.keeps fun b u e => I2.bk b u e
  have cont' : ∀ (code : Value) (h3 : Heap) (tk : Nat) (ps' : Array Value), Heap.ExtBut P s2.heap h3 → s2.heap.objs.size ≤ h3.objs.size → h3.get? P = some { cls := .none, data := .fields ps' } → (∃ more, ps' = ps ++ more) → TriplesOk ps'.toList →
      wpAny (model X.prog X.w) X.A (builtinsFor X.env.globals X.env.builtins) (fun bi s₄ =>
        ∀ h', h'.Ns s₄.heap.objs.size (fun y => if y = ".0" then some (.ref it) else none) → Heap.SameBut s₄.heap.objs.size (s₄.heap.push { cls := .type "frame", data := .dict #[] }) h' →
          ∃ H1 sc ex, Inv X pins σ H1 sc ∧ ExOk X pins ex ∧ GMade X.prog X.w (k + 1) X.stack H1 sc ex cont E (.ref h'.objs.size) { s₄ with
            gens := s₄.gens.push (.fresh (.compStart (.GeneratorExp elt [⟨tg, iter, [], 0⟩] scope gpos) 0 (.ref it) .none (genEnv scope (cloFrom X.env.cells scope.names []) s₄.heap.objs.size code bi X.env))),
            toks := s₄.toks + 1 + 1 + 1,
            heap := h'.push { cls := .type "generator", data := .fields #[.int s₄.gens.size 0, .str "<genexpr>" (s₄.toks + 1), .str (X.env.qual ++ "<genexpr>") (s₄.toks + 1 + 1)] } }) X.xe { s2 with heap := h3, toks := tk } := by
    intro code h3 tk ps' hx hsz hP3 hmore ht3
    obtain ⟨bm, ob, e1, e2, e3, e4, e5, e6, e7, e8⟩ := TB.bm
    have kp3 : ∀ b u, b ≠ P → s2.heap.get? b = some u → h3.get? b = some u := fun b u hb e => hx b u hb e
    refine wpAny_builtinsFor (m := X.mg) (by rw [I2.ok.glob]; exact (I2.mod.glob.keeps I2.bk).extBut hx TB.gP) e1 e2 (kp3 _ _ e4 (I2.bk _ _ e5)) e6 e7 e8 ?_
    obtain ⟨more, rfl⟩ := hmore
    have Isc : Inv X pins σ (upd H1 P (.tbl (ps ++ more))) { s2 with heap := h3, toks := tk } := inv_tab (g' := s2.gens) (d' := s2.drawn) I2 hPt kp3 hP3 I2.bare
    have tabbed : Tabbed P H1 (upd H1 P (.tbl (ps ++ more))) := ⟨⟨ps ++ more, upd_same, ht3⟩, fun b hb => upd_ne hb⟩
    obtain ⟨W, ⟨m0, w0⟩, turn⟩ := hrest _ tabbed
    have fpP : ∀ b ∈ fp, b ≠ P := fun b hb e => by
      have q := (f2 b hb).1
      rw [e, hPt] at q
      cases q
    have fp2 : ∀ b ∈ fp, upd H1 P (.tbl (ps ++ more)) b = none := fun b hb => by rw [upd_ne (fpP b hb)]; exact (f2 b hb).1
    intro h' hn' hs'
    have hsz' : h'.objs.size = h3.objs.size + 1 := by rw [hs'.1, Heap.size_push]
    have keep' : ∀ b o, h3.get? b = some o → h'.get? b = some o := fun b o e => hs'.extBut b o (Nat.ne_of_lt (Heap.lt_size e)) (Heap.get?_push_of_some _ e)
    refine ⟨_, _, fp, Isc, fun b hb => ?_, ?_⟩
    · obtain ⟨_, q2, _, q4, q5, q6⟩ := f2 b hb
      exact ⟨q4, q2, q5, q6⟩
    have main : ∀ (go : Obj) (nm qn : Value) (tk2 : Nat), go.cls = .type "generator" → go.data = .fields #[.int s2.gens.size 0, nm, qn] → go.slots = #[] → (∀ h : Heap, (h.push go).get? h.objs.size = some go) →
        GMade X.prog X.w (k + 1) X.stack (upd H1 P (.tbl (ps ++ more))) { s2 with heap := h3, toks := tk } fp cont E (.ref h'.objs.size) { s2 with
            gens := s2.gens.push (.fresh (.compStart (.GeneratorExp elt [⟨tg, iter, [], 0⟩] scope gpos) 0 (.ref it) .none (gxEnv X scope h3.objs.size code))), toks := tk2, heap := h'.push go } := by
      intro go nm qn tk2 hgc hgd0 hgs hgp
      have hgen : ∀ h : Heap, h.get? h'.objs.size = some go → h.IsGen h'.objs.size s2.gens.size := fun h e => ⟨go, nm, qn, e, hgc, hgd0, hgs⟩
      have hpushed : (h'.push go).get? h'.objs.size = some go := hgp _
      have keepA : ∀ b o, h3.get? b = some o → (h'.push go).get? b = some o := fun b o e => Heap.get?_push_of_some _ (keep' b o e)
      refine ⟨h'.objs.size, s2.gens.size, _, rfl, by show h3.objs.size ≤ _; omega, by show _ < (h'.push go).objs.size; rw [Heap.size_push]; exact Nat.lt_succ_self _, hgen _ hpushed, Array.getElem?_push_size .., rfl, AllBare.push I2.bare rfl, Isc.nolimit.keeps keepA, keepA, ?_⟩
      intro Aw Sx s9 hrw hfr hSx hk9 hSo hos hba
      have kp9 : ∀ b o, h3.get? b = some o → s9.heap.get? b = some o := fun b o e => hk9 b o (keepA b o e)
      have hSz : h'.objs.size < Sx := by
        have q : (h'.push go).objs.size ≤ Sx := hSx
        rw [Heap.size_push] at q
        exact q
      obtain ⟨cS, heS⟩ := hSo
      have hea : s9.heap.get? h'.objs.size = some go := hk9 _ go hpushed
      have hgd : ∀ v, go.data ≠ .cell v := fun v q => by rw [hgd0] at q; cases q
      have e0 := Isc.env0
      have cellsX : ∀ x c, (cloFrom X.env.cells scope.names []).lookup x = some c → X.env.cells.lookup x = some c := fun x c e => clo_of hfree e
      have fp3 : ∀ b ∈ fp, ∃ o, h3.get? b = some o := fun b hb => by
        obtain ⟨o, e, _⟩ := T.obj _ _ st2 b hb
        exact ⟨o, kp3 b o (fpP b hb) e⟩
      have stk : ∀ b, b ∉ X.fs → b ≠ X.env.locals → b ∉ frs X.stack := fun b h1 h2 hm => by
        rcases List.mem_cons.mp (Isc.stkSub b hm) with z | z
        · exact h2 z
        · exact h1 z
      have young : ∀ b, h3.objs.size ≤ b → upd H1 P (.tbl (ps ++ more)) b = none ∧ b ∉ frs X.stack ∧ b ∉ fp ∧ ∀ y c, X.env.cells.lookup y = some c → c ≠ b := fun b hb => by
        refine ⟨Isc.hok.fresh hb, stk b (Isc.nofs hb) (Nat.ne_of_gt (Nat.lt_of_lt_of_le Isc.lt hb)), fun hm => ?_, fun y c e z => ?_⟩
        · obtain ⟨o, e⟩ := fp3 b hm
          exact absurd (Nat.lt_of_lt_of_le (Heap.lt_size e) hb) (Nat.lt_irrefl _)
        · obtain ⟨v, ob, ho, _⟩ := Isc.cell y c e
          have := Heap.lt_size ho
          rw [z] at this
          exact absurd (Nat.lt_of_lt_of_le this hb) (Nat.lt_irrefl _)
      have okY : ∀ pn, (gx X N scope h3.objs.size code Aw { s2 with heap := h3, toks := tk } (upd H1 P (.tbl (ps ++ more))) fp pn).Ok := fun pn => by
        refine ⟨e0.mod, S.kind, I2.ok.glob, rfl, Nat.le_refl _, fun x y c h1 h2 => Isc.ok.inj x y c (cellsX x c h1) (cellsX y c h2), fun x hx' => ?_, fun x c h1 _ => (by cases h1), fun _ => hrw.hd, Around.frames_deeper hfr, .inr ⟨rfl, rfl⟩, fun b hb => ⟨?_, fun x c h1 => ?_⟩, e0.bs, e0.bsz, fun b o e hb => ?_, fun b hb => ?_, e0.funs, e0.frf⟩
        · have hx' : scope.names.lookup x = some .cell ∨ scope.names.lookup x = some .free := hx'
          rcases hx' with z | z
          · exact absurd rfl (S.cell _ (PySem.mem_of_lookup z))
          · exact clo_to z
        · obtain ⟨o, e⟩ := fp3 b hb
          exact Nat.ne_of_lt (Heap.lt_size e)
        · exact (f2 b hb).2.2.2.2.1 x c (cellsX x c h1)
        · rcases (f2 b hb).2.2.2.1 with z | z
          · exact Isc.ok.noex b o e z
          · exact absurd (Nat.lt_of_lt_of_le (Heap.lt_size e) (Nat.le_trans Isc.ok.bsz z)) (Nat.lt_irrefl _)
        · exact stk b (f2 b hb).2.2.1 (f2 b hb).2.1
      have IY : Inv (gx X N scope h3.objs.size code Aw { s2 with heap := h3, toks := tk } (upd H1 P (.tbl (ps ++ more))) fp [(h'.objs.size, go)]) [(Sx, lstObj #[] cS)] (fs σ) (upd H1 P (.tbl (ps ++ more))) s9 := by
        refine ⟨okY _, hos, hba, Un.kept kp9, ⟨_, (hn'.push go).at' fun o e => hk9 _ o e, fun i x v h1 h2 h3' => ?_⟩, fun x c h1 => ?_, Isc.hok.fresh (Nat.le_refl _), fun x c h1 => Isc.freeC x c (cellsX x c h1), fun p hp => ?_, Isc.hok.kept kp9, hlen σ⟩
        · obtain ⟨hfr', j, hj, hv⟩ := hfs σ i x v h1 h2
          obtain ⟨c', hc'⟩ := clo_to (cells := X.env.cells) hfr'
          obtain ⟨m, _, hl⟩ := Isc.loc
          have hk : X.env.scope.names.lookup x = some .cell ∨ X.env.scope.names.lookup x = some .free := S.free _ (PySem.mem_of_lookup hfr') rfl
          obtain ⟨u, ru, hu⟩ := hl j x v hj hv (hk.elim (fun z => .inr (.inl z)) fun z => .inr (.inr z))
          refine ⟨u, ru, .inr ⟨.inr hfr', c', hc', ?_⟩⟩
          rcases hu with ⟨z, _⟩ | ⟨_, c2, hc2, cell2⟩
          · have z : X.env.scope.names.lookup x = some .local := z
            rcases hk with q | q
            · rw [z] at q; cases q
            · rw [z] at q; cases q
          · have := cellsX x c' hc'
            rw [hc2] at this
            cases this
            obtain ⟨ob, ho, r⟩ := cell2
            exact ⟨ob, kp9 _ ob ho, r⟩
        · obtain ⟨v, ob, ho, r⟩ := Isc.cell x c (cellsX x c h1)
          exact ⟨v, ob, kp9 _ ob ho, r⟩
        · rcases List.mem_append.mp hp with z | z
          · rw [List.mem_singleton.mp z]
            obtain ⟨y1, y2, _⟩ := young h'.objs.size (by omega)
            exact ⟨hea, y1, by show h'.objs.size ≠ h3.objs.size; omega, y2, hgd⟩
          · rw [List.mem_singleton.mp z]
            obtain ⟨y1, y2, _⟩ := young Sx (by omega)
            exact ⟨heS, y1, by show Sx ≠ h3.objs.size; exact Nat.ne_of_gt (Nat.lt_trans (by rw [hsz']; exact Nat.lt_succ_self _) hSz), y2, fun v q => by cases q⟩
      have hSne : h'.objs.size ≠ Sx := Nat.ne_of_lt hSz
      have hSy := young Sx (by omega)
      have hpn : ∀ p ∈ [(h'.objs.size, go)], p.1 ≠ Sx := fun p hp => by
        rw [List.mem_singleton.mp hp]
        exact hSne
      have hap : Apart (gx X N scope h3.objs.size code Aw { s2 with heap := h3, toks := tk } (upd H1 P (.tbl (ps ++ more))) fp [(h'.objs.size, go)]) Sx :=
        ⟨by show h3.objs.size ≤ Sx; omega, by show Sx ≠ h3.objs.size; exact Nat.ne_of_gt (Nat.lt_trans (by rw [hsz']; exact Nat.lt_succ_self _) hSz), fun x c e => hSy.2.2.2 x c (cellsX x c e)⟩
      have st9 : tn 0 s9.heap := T.keep _ _ _ st2 fun b hb o e => kp9 b o (kp3 b o (fpP b hb) e)
      have pinned : ∀ {ip : List (Addr × Obj)} {ys : List V} {s' : Shared} {σ' : L2.St} {H' : Hp}, GI (gx X N scope h3.objs.size code Aw { s2 with heap := h3, toks := tk } (upd H1 P (.tbl (ps ++ more))) fp [(h'.objs.size, go)]) Sx ip ys σ' H' s' → s'.heap.IsGen h'.objs.size s2.gens.size := fun {ip ys s' σ' H'} hI => by
        obtain ⟨acc, cc, _, J⟩ := hI
        exact hgen _ (J.pin (h'.objs.size, go) (List.mem_append_left _ (List.mem_singleton.mpr rfl))).1
      refine seg_imp (R := GEx (gx X N scope h3.objs.size code Aw { s2 with heap := h3, toks := tk } (upd H1 P (.tbl (ps ++ more))) fp [(h'.objs.size, go)]) Sx cont)
        (Y := GY (gx X N scope h3.objs.size code Aw { s2 with heap := h3, toks := tk } (upd H1 P (.tbl (ps ++ more))) fp [(h'.objs.size, go)]) Sx) (fun n s₀ r s1' hR => ?_) (fun n s₀ v s1' kap kap' hkk hY => ?_) sizeLine ?_
      · obtain ⟨rfl, ys, ip, σ', H', hn, hI, hQ⟩ := hR
        obtain ⟨a1, _, _, acc, cc, ra, ea⟩ := hI.at
        obtain ⟨_, _, _, J'⟩ := hI
        exact .inl ⟨.inr rfl, H', ys, acc, cc, J'.os, J'.bare, J'.base, J'.hok, a1, ea, ra, by omega, hQ⟩
      · obtain ⟨ys, xx, ip, σ', H', hn, h2, hI, h3'⟩ := hY
        obtain ⟨_, _, _, acc, cc, ra, ea⟩ := hI.at
        have hg' := pinned hI
        obtain ⟨_, _, _, J'⟩ := hI
        have hsz2 : acc.size = ys.length := by
          have e1 := ra.length
          have e2 : acc.toList.length = acc.size := by simp
          omega
        exact ⟨J'.os, J'.bare, J'.nolimit, hg', ⟨acc, cc, ea, by rw [hsz2]; exact hn⟩, fun s' z => hkk _ _ (h3' s' z)⟩
      · refine seg_begin (Y := gx X N scope h3.objs.size code Aw { s2 with heap := h3, toks := tk } (upd H1 P (.tbl (ps ++ more))) fp [(h'.objs.size, go)]) hrw.hd rfl T st9 ?_
        refine seg_turns (Y := gx X N scope h3.objs.size code Aw { s2 with heap := h3, toks := tk } (upd H1 P (.tbl (ps ++ more))) fp [(h'.objs.size, go)]) hrw.hd rfl rfl (fun _ _ z => z) rfl S.co T (hg _ _ _ _ _ _ _ (hrw.deeper _)) (he _ _ _ _ _ _ _ (hrw.deeper _)) hpn hSy.2.2.1 hap (fun b hb => hb) (fun b hb => ?_) turn m0 0 sizeLine [] s9 s9 _ (Nat.add_zero _) w0 ⟨#[], cS, .nil, IY⟩ st9 fp2
        obtain ⟨_, q2, q3, q4, q5, q6⟩ := f2 b hb
        obtain ⟨o, e⟩ := fp3 b hb
        refine ⟨Nat.ne_of_lt (Heap.lt_size e), stk b q3 q2, fun x c h1 => q5 x c (cellsX x c h1), fun p hp => ?_⟩
        rw [List.mem_singleton.mp hp]
        exact fun z => absurd (Heap.lt_size e) (by rw [← z]; show ¬ h'.objs.size < h3.objs.size; omega)
    exact main _ _ _ _ rfl rfl rfl fun h => Heap.get?_push_size _ rfl
  cases hf : codeAmong gpos ps.toList with
  | none =>
    refine wpAny_genexprCodeX hcode (cd.code tabS ht) (cd.tab tabS) hf fun c' h' tk hx hge hlt hco' _ htab' _ => ?_
    obtain ⟨o1, us, f1, tf, fl, tg, inF, tx, tt, op, _, _, _, _, _, _, _, _, _, htr, _⟩ := hco'
    exact cont' _ h' tk _ hx (Nat.le_trans hge (Nat.le_of_lt hlt)) htab'.2 ⟨_, rfl⟩ htr
  | some cv =>
    refine wpAny_genexprCode_hit hcode (cd.code tabS ht) hf ?_
    exact cont' cv s2.heap s2.toks ps (Heap.ExtBut.refl _ _) (Nat.le_refl _) tabS ⟨#[], by simp⟩ ht
end
end GW

set_option maxHeartbeats 2000000
namespace GW
open PySem PySem.Spec PyProof.Rows L2 GxR GenW
section
variable {P : Program} {w : World} {outer : List Env} {H : Hp} {sc s : Shared} {ex : List Addr} {Q : List V → Hp → Prop} {EX : XK} {A : Around} {k : Nat} {a : Addr} {E : Value → Shared → Prop}
/-- all that a new generator gives, as a list of values -/
theorem collect_new {Q' : List Value → Shared → Prop} (hr : Room (k + 3) A) (hfr : A.frames = some outer) (h : GMade P w k outer H sc ex Q EX (.ref a) s)
    (hQ : ∀ (S : Addr) (s' : Shared) (acc : Array Value) (c : Nat) (H' : Hp) (ys : List V), s.heap.objs.size ≤ S → s'.heap.get? S = some (lstObj acc c) → Vals ys acc.toList → ys.length ≤ sizeLine → s'.os = sc.os → AllBare s'.gens → Un (frs outer) ex H H' sc.heap s'.heap → HOk P w H' s'.heap → H' S = none → Q ys H' → Q' acc.toList s')
    (hexc : ∀ e s' g, CX P w outer H sc EX e s' → NotStop (model P w) e s'.heap ∧ E e (s'.setGen g .finished)) :
    wpAny (model P w) A (collect (.ref a)) Q' E s := by
  obtain ⟨a', g, c, ea, ha1, ha2, hg, hgs, hos, hb, hl, hkp, wake⟩ := h
  cases ea
  have hSa : s.heap.objs.size ≠ a := Nat.ne_of_gt ha2
  have hcl : cStatics < s.heap.objs.size := let ⟨_, hn, _⟩ := hl; hn.lt
  have hSc : s.heap.objs.size ≠ cStatics := Nat.ne_of_gt hcl
  unfold collect
  refine wpAny_bind (wpAny_runValue (codeAny_builtin F.entry_proto_collect ?_))
  rw [Around.under_plainId F.plain_proto_collect _]
  show wpAny _ A.in1 (newList [] >>= fun l => again (.builtin "list.__iadd__" ⟨[l, .ref a], []⟩)) _ _ s
  refine wpAny_bind (wpAny_newObj_type ?_)
  refine wpAny_pure ⟨plainId_quiet F.plain_list_iadd _, codeAny_builtin F.entry_list_iadd ?_⟩
  rw [Around.under_plainId F.plain_list_iadd _]
  have up : ∀ (h : Heap) (f : Obj → Obj), (∀ b o, s.heap.get? b = some o → h.get? b = some o) → ∀ b o, s.heap.get? b = some o → (h.update s.heap.objs.size f).get? b = some o := fun h f q b o e =>
    (Heap.get?_update_other _ _ (Ne.symm (Nat.ne_of_lt (Heap.lt_size e)))).trans (q b o e)
  have k1 : ∀ b o, s.heap.get? b = some o → (s.heap.push { cls := .type "list", data := .seq ([] : List Value).toArray }).get? b = some o := fun b o e => Heap.get?_push_of_some _ e
  have gty : ∀ {h : Heap}, (∀ b o, s.heap.get? b = some o → h.get? b = some o) → h.IsGen a g := fun {h} q => hg.keeps q
  show wpAny _ A.in1 (Builtin.List.listExtendWith (.ref s.heap.objs.size) (.ref a) (.ref s.heap.objs.size)) _ _ _
  unfold Builtin.List.listExtendWith
  refine wpAny_bind (wpAny_typeOf (Heap.IsGen.typeIs (s := { s with heap := _ }) (gty k1)) ?_)
  have h1 : Builtin.List.listSameRef (.ref s.heap.objs.size) (.ref a) = false := by simp [Builtin.List.listSameRef, hSa]
  have h2 : (Value.type "generator" == Value.type "list") = false := by decide
  have h3 : (Value.type "generator" == Value.type "tuple") = false := by decide
  simp only [h1, h2, h3, Bool.or_false, Bool.false_eq_true, if_false]
  refine wpAny_bind (wpAny_pyIter_gen (s := { s with heap := _ }) (gty k1) ?_)
  refine wpAny_bind (wpAny_holding ?_)
  unfold Builtin.List.listLengthHint
  refine wpAny_bind (wpAny_specialOf (Heap.IsGen.typeIs (s := { s with heap := _ }) (gty k1)) F.gen_no_len ?_)
  show wpAny _ A.in1 (specialOf (Value.ref a) (Str.ofString "__length_hint__") >>= _) _ _ _
  refine wpAny_bind (wpAny_specialOf (Heap.IsGen.typeIs (s := { s with heap := _ }) (gty k1)) F.gen_no_hint ?_)
  refine wpAny_pure ?_
  show wpAny _ A.in1 (rule "list.extend.makes-room" >>= fun _ => Builtin.List.listTouch (.ref s.heap.objs.size) >>= fun _ =>
    again (.builtin "list.extend.loop" ⟨[.ref s.heap.objs.size, .ref a, .ref s.heap.objs.size], []⟩)) _ _ _
  refine wpAny_bind (wpAny_rule ?_)
  have hS1 : (s.heap.push { cls := .type "list", data := .seq ([] : List Value).toArray }).get? s.heap.objs.size = some { cls := .type "list", data := .seq ([] : List Value).toArray } := Heap.get?_push_size _ rfl
  refine wpAny_bind ?_
  show wpAny _ A.in1 (updateSeq s.heap.objs.size (·.push .none) >>= fun _ => updateSeq s.heap.objs.size (·.pop)) _ _ _
  refine wpAny_bind (wpAny_updateSeq hS1 rfl ?_)
  have hS2 := Heap.get?_update_self (Obj.mapSeq (·.push Value.none)) hS1 rfl
  refine wpAny_updateSeq (hz := by seq_fits) hS2 rfl ?_
  have hS3 := Heap.get?_update_self (Obj.mapSeq (·.pop)) hS2 rfl
  have k4 := up _ (Obj.mapSeq (·.pop)) (up _ (Obj.mapSeq (·.push Value.none)) k1)
  refine wpAny_pure ⟨plainId_quiet F.plain_extend_loop _, ?_⟩
  refine drain (P := P) (w := w) (outer := outer) (H := H) (sc := sc) (ex := ex) (Q := Q) (EX := EX) (A := A) (g := g) hr.hd (by have := hr.dp; omega) hSa hSc
    (fun s' acc c H' ys q1 q2 q3 q4 q5 q6 q7 q8 q9 => ?_) (fun e s' hc => hexc e s' g hc)
    sizeLine _ (gty k4) (hl.keeps k4) ⟨_, hgs, rfl, ?_⟩
  · show wpAny _ A (load s.heap.objs.size >>= _) _ _ s'
    exact wpAny_bind (wpAny_load q1 (wpAny_pure (hQ _ s' acc c H' ys (Nat.le_refl _) q1 q2 q3 q4 q5 q6 q7 q8 q9)))
  · refine wake _ _ _ ⟨hr.hd, ?_, ?_⟩ hfr (Nat.le_refl _) k4 ⟨_, hS3⟩ hos (allBare_setGen (s := { s with heap := _ }) hb rfl)
    · have := hr.dp
      show A.depth + 3 * k + 5 < _
      omega
    · have := hr.un
      show A.units + 1 + 1 + 16 * k + 200 < _
      omega
theorem code_tuple_new {Q₁ : Value → Shared → Prop} (hr : Room (k + 4) A) (hfr : A.frames = some outer) (h : GMade P w k outer H sc ex Q EX (.ref a) s)
    (hQ : ∀ (S : Addr) (s' : Shared) (acc : Array Value) (c : Nat) (H' : Hp) (ys : List V), s.heap.objs.size ≤ S → s'.heap.get? S = some (lstObj acc c) → Vals ys acc.toList → ys.length ≤ sizeLine → s'.os = sc.os → AllBare s'.gens → Un (frs outer) ex H H' sc.heap s'.heap → HOk P w H' s'.heap → H' S = none → Q ys H' →
      Q₁ (.ref s'.heap.objs.size) { s' with heap := s'.heap.push { cls := .type "tuple", data := .seq acc } })
    (hexc : ∀ e s' g, CX P w outer H sc EX e s' → NotStop (model P w) e s'.heap ∧ E e (s'.setGen g .finished)) :
    codeAny (model P w) A (.call (.builtin "tuple.__new__") ⟨[.type "tuple", .ref a], []⟩) (wants Q₁ E) s := by
  refine codeAny_of_tree ?_
  show wpAny _ A.in1 (do checkBuiltinCall "tuple.__new__" ⟨[.type "tuple", .ref a], []⟩; again (.builtin "tuple.__new__" ⟨[.type "tuple", .ref a], []⟩)) _ _ s
  refine wpAny_bind (wpAny_of_eq (F.newCall_tuple_1 _) (wpAny_pure ⟨plainId_quiet F.plain_tuple_new _, codeAny_builtin F.entry_tuple_new ?_⟩))
  rw [Around.under_plainId F.plain_tuple_new _]
  have hsub := sub_tuple_self
  have hinit := init_tuple_lookup
  have hmh := madeHere_tuple
  have hTI : s.TypeIs (.ref a) "generator" := by
    obtain ⟨a', g, c, ea, ha1, ha2, hg, _⟩ := h
    cases ea
    exact hg.typeIs
  have hr1 : Room (k + 3) A.in1 := hr.in1
  wp_walk using wpAny_typeOf hTI, collect_new hr1 hfr h
  · intro S s' acc c H' ys q0 q1 q2 q3 q4 q5 q6 q7 q8 q9
    show wpAny _ _ (Builtin.Tuple.tupleExact acc.toList.toArray >>= fun v => ret v) _ _ _
    unfold Builtin.Tuple.tupleExact
    have e : acc.toList.toArray = acc := by simp
    refine wpAny_bind (wpAny_newObj_type ?_ (by show acc.toList.toArray.size ≤ sizeLine; rw [e]; have := q2.length; have e2 : acc.toList.length = acc.size := by simp
                                                omega))
    refine wpAny_pure ?_
    rw [e]
    exact hQ S s' acc c H' ys q0 q1 q2 q3 q4 q5 q6 q7 q8 q9
  · exact hexc
theorem call_tuple_new {Q₁ : Value → Shared → Prop} (hr : Room (k + 5) A) (hfr : A.frames = some outer) (h : GMade P w k outer H sc ex Q EX (.ref a) s)
    (hQ : ∀ (S : Addr) (s' : Shared) (acc : Array Value) (c : Nat) (H' : Hp) (ys : List V), s.heap.objs.size ≤ S → s'.heap.get? S = some (lstObj acc c) → Vals ys acc.toList → ys.length ≤ sizeLine → s'.os = sc.os → AllBare s'.gens → Un (frs outer) ex H H' sc.heap s'.heap → HOk P w H' s'.heap → H' S = none → Q ys H' →
      Q₁ (.ref s'.heap.objs.size) { s' with heap := s'.heap.push { cls := .type "tuple", data := .seq acc } })
    (hexc : ∀ e s' g, CX P w outer H sc EX e s' → NotStop (model P w) e s'.heap ∧ E e (s'.setGen g .finished)) :
    wpAny (model P w) A (call (.type "tuple") [.ref a]) Q₁ E s := by
  refine callType_codes (Q₁ := fun obj s₁ => s₁.TypeIs obj "tuple" ∧ Q₁ obj s₁) F.called_tuple (F.typeCall_tuple_1 _) F.entry_object_init
    (code_tuple_new hr.in1 hfr h (fun S s' acc c H' ys q0 q1 q2 q3 q4 q5 q6 q7 q8 q9 => ⟨⟨_, Heap.get?_push_size _ rfl, rfl⟩, hQ S s' acc c H' ys q0 q1 q2 q3 q4 q5 q6 q7 q8 q9⟩) hexc) fun obj s₁ h₁ => ?_
  exact ⟨h₁.1, F.args_object_init_2 obj _, object_init_meets F.called_tuple.init.lookup F.called_tuple.made (by decide) P w A.in1 _ s₁ ⟨h₁.1, rfl, h₁.2⟩⟩
end
section
variable {X : Cx} {k : Nat} {p pos : Pos}
def tTupleG (tg : TGen) : TE := fun σ H Q => tg σ H fun out H2 => ∀ p, H2 p = none → Q (.ref p) (upd H2 p (.tup out))
/-- tuple(g) of a generator that has not begun; it never raises -/
theorem pe_tupleG {e : Expr} {tg : TGen} {nm : Str} (h : PGen X k e tg (fun _ _ _ => False)) (hr : Room (k + 5) X.A) (hg : Gl X nm) (hmg : X.mg nm = none) (hv : bootBuiltins nm = some (.type "tuple")) (hnm : nm ≠ "__name__" := by decide) (hdb : (nm == ("__debug__" : Str)) = false := by decide)
    (he : starEach [e] X.env = (false, eval e X.env) :: starEach [] X.env := by rfl) : PE X (.Call (.Name nm p) [e] [] pos) (tTupleG tg) := by
  refine ⟨fun pins s σ H Q I hq => ?_⟩
  refine wpAny_Call_Name_kw (ld_blt I hg hmg hv ?_ hnm hdb)
  refine PyProof.Rows.callWith_type1 ?_ he rfl
  rw [he]
  show wpAny _ _ (spliced ((false, eval e X.env) :: backTo pos (starEach [] X.env))) _ _ s
  refine Calls.spliced_cons (thn (h.run pins s σ H _ I hq) fun u s1 ⟨H1, sc, ex, I1, hex, hG⟩ => ?_)
  refine Calls.spliced_nil ?_
  have hu : ∃ a, u = .ref a := by
    obtain ⟨a, g, c, e, _⟩ := hG
    exact ⟨a, e⟩
  obtain ⟨a, rfl⟩ := hu
  refine call_tuple_new hr I1.ok.frames hG (fun S s' acc c H' ys q0 q1 q2 hl q3 q4 q5 q6 q7 q8 => ?_) fun e s' g hc => ?_
  · have J : Inv X pins σ H' s' := I1.call' (ch := ex) q3 q5 q6 q4 hex
    have I2 : Inv X pins σ (upd H' s'.heap.objs.size (.tup ys)) { s' with heap := s'.heap.push { cls := .type "tuple", data := .seq acc } } :=
      J.laid (t' := s'.toks) (fun b o e => Heap.get?_push_of_some _ e) (Nat.le_refl _) (show ObjOk X.prog X.w _ _ _ (.tup ys) from ⟨hl, acc.toList, q2, by rw [Array.toArray_toList]; exact IsTup.new _ _⟩)
    exact ⟨.ref s'.heap.objs.size, _, I2, rfl, q8 _ (J.hok.fresh (Nat.le_refl _))⟩
  · obtain ⟨_, _, _, _, _, _, _, _, _, _, _, _, f⟩ := hc
    exact f.elim
end
end GW

set_option maxHeartbeats 1000000
namespace GW
open PySem PySem.Spec PyProof.Rows L2 GX GxR
section
variable {X : Cx} {k : Nat} {p pos : Pos}
/-- tuple(g), the tuple known to have no dict -/
def tTupleF (tg : TGen) : TE := fun σ H Q => tg σ H fun out H2 => ∀ (p : Addr) (o : Obj), H2 p = none → o.cls = .type "tuple" → o.dict = none → Q (.ref p) (upd H2 p (.frz o (.tup out)))
theorem pe_tupleF {e : Expr} {tg : TGen} {nm : Str} (h : PGen X k e tg (fun _ _ _ => False)) (hr : Room (k + 5) X.A) (hg : Gl X nm) (hmg : X.mg nm = none) (hv : bootBuiltins nm = some (.type "tuple")) (hnm : nm ≠ "__name__" := by decide) (hdb : (nm == ("__debug__" : Str)) = false := by decide)
    (he : starEach [e] X.env = (false, eval e X.env) :: starEach [] X.env := by rfl) : PE X (.Call (.Name nm p) [e] [] pos) (tTupleF tg) := by
  refine ⟨fun pins s σ H Q I hq => ?_⟩
  refine wpAny_Call_Name_kw (ld_blt I hg hmg hv ?_ hnm hdb)
  refine PyProof.Rows.callWith_type1 ?_ he rfl
  rw [he]
  show wpAny _ _ (spliced ((false, eval e X.env) :: backTo pos (starEach [] X.env))) _ _ s
  refine Calls.spliced_cons (thn (h.run pins s σ H _ I hq) fun u s1 ⟨H1, sc, ex, I1, hex, hG⟩ => ?_)
  refine Calls.spliced_nil ?_
  have hu : ∃ a, u = .ref a := by
    obtain ⟨a, g, c, e, _⟩ := hG
    exact ⟨a, e⟩
  obtain ⟨a, rfl⟩ := hu
  refine call_tuple_new hr I1.ok.frames hG (fun S s' acc c H' ys q0 q1 q2 hl q3 q4 q5 q6 q7 q8 => ?_) fun e s' g hc => ?_
  · have J : Inv X pins σ H' s' := I1.call' (ch := ex) q3 q5 q6 q4 hex
    have I2 : Inv X pins σ (upd H' s'.heap.objs.size (.frz { cls := .type "tuple", data := .seq acc } (.tup ys))) { s' with heap := s'.heap.push { cls := .type "tuple", data := .seq acc } } :=
      J.laid (t' := s'.toks) (fun b o e => Heap.get?_push_of_some _ e) (Nat.le_refl _) (show ObjOk X.prog X.w _ _ _ (.frz _ (.tup ys)) from ⟨Heap.get?_push_size _ rfl, hl, acc.toList, q2, by rw [Array.toArray_toList]; exact IsTup.new _ _⟩)
    exact ⟨.ref s'.heap.objs.size, _, I2, rfl, q8 _ _ (J.hok.fresh (Nat.le_refl _)) rfl rfl⟩
  · obtain ⟨_, _, _, _, _, _, _, _, _, _, _, _, f⟩ := hc
    exact f.elim
end
end GW

namespace My
open PySem PySem.Spec PyProof.Rows L2 GX GxR
/-- pairs of a text and a number -/
inductive PairVs (H : Hp) : List V → List (Str × Int) → Prop
  | nil : PairVs H [] []
  | cons {t : Addr} {z : Str} {n : Int} {vs : List V} {ps : List (Str × Int)} : H t = some (.tup [.str z, .int n]) → PairVs H vs ps → PairVs H (.ref t :: vs) ((z, n) :: ps)
theorem PairVs.same {H H' : Hp} (s : Same H H') : ∀ {vs : List V} {ps : List (Str × Int)}, PairVs H vs ps → PairVs H' vs ps
  | _, _, .nil => .nil
  | _, _, .cons h r => .cons (s _ _ h) (r.same s)
theorem PairVs.len {H : Hp} : ∀ {vs : List V} {ps : List (Str × Int)}, PairVs H vs ps → vs.length = ps.length
  | _, _, .nil => rfl
  | _, _, .cons _ r => congrArg Nat.succ r.len
theorem PairVs.get {H : Hp} : ∀ {vs : List V} {ps : List (Str × Int)}, PairVs H vs ps → ∀ (i : Nat) (v : V), vs[i]? = some v → ∃ t z n, v = .ref t ∧ H t = some (.tup [.str z, .int n])
  | _, _, .nil, _, _, h => by simp at h
  | _, _, .cons (t := t) (z := z) (n := n) h r, 0, v, e => by
    cases e
    exact ⟨t, z, n, rfl, h⟩
  | _, _, .cons h r, i + 1, v, e => r.get i v (by simpa using e)
theorem PairVs.put {H : Hp} {D : Addr} {xs ys : List V} (e : H D = some (.lst xs)) : ∀ {vs : List V} {ps : List (Str × Int)}, PairVs H vs ps → PairVs (upd H D (.lst ys)) vs ps
  | _, _, .nil => .nil
  | _, _, .cons (t := t) h r => .cons (by
      have ne : t ≠ D := fun z => by
        rw [z, e] at h
        cases h
      rw [upd_ne ne]
      exact h) (r.put e)
theorem PairVs.kt {H H' : Hp} (k : KTu H H') : ∀ {vs : List V} {ps : List (Str × Int)}, PairVs H vs ps → PairVs H' vs ps
  | _, _, .nil => .nil
  | _, _, .cons h r => .cons (k _ _ h) (r.kt k)
theorem PairVs.snoc {H : Hp} {t : Addr} {z : Str} {n : Int} (e : H t = some (.tup [.str z, .int n])) : ∀ {vs : List V} {ps : List (Str × Int)}, PairVs H vs ps → PairVs H (vs ++ [.ref t]) (ps ++ [(z, n)])
  | _, _, .nil => .cons e .nil
  | _, _, .cons h r => .cons h (r.snoc e)
/-- a value is a pair -/
def PairV (H : Hp) (v : V) (q : Str × Int) : Prop := ∃ t, v = .ref t ∧ H t = some (.tup [.str q.1, .int q.2])
theorem PairVs.zipped {H : Hp} : ∀ {vs : List V} {ps : List (Str × Int)}, PairVs H vs ps → ∃ qs : List (V × (Str × Int)), qs.map (·.1) = vs ∧ qs.map (·.2) = ps ∧ ∀ q ∈ qs, PairV H q.1 q.2
  | _, _, .nil => ⟨[], rfl, rfl, fun _ h => nomatch h⟩
  | _, _, .cons (t := t) (z := z) (n := n) h r => by
    obtain ⟨qs, e1, e2, e3⟩ := r.zipped
    refine ⟨(.ref t, (z, n)) :: qs, by rw [List.map_cons, e1], by rw [List.map_cons, e2], fun q hq => ?_⟩
    rcases List.mem_cons.mp hq with y | y
    · rw [y]; exact ⟨t, rfl, h⟩
    · exact e3 q y
theorem PairVs.of {H : Hp} : ∀ {qs : List (V × (Str × Int))}, (∀ q ∈ qs, PairV H q.1 q.2) → PairVs H (qs.map (·.1)) (qs.map (·.2))
  | [], _ => .nil
  | q :: qs, h => by
    obtain ⟨t, e1, e2⟩ := h q List.mem_cons_self
    show PairVs H (q.1 :: qs.map (·.1)) (q.2 :: qs.map (·.2))
    rw [e1]
    exact .cons e2 (PairVs.of fun x hx => h x (List.mem_cons_of_mem _ hx))
theorem PairVs.at {H : Hp} : ∀ {vs : List V} {ps : List (Str × Int)}, PairVs H vs ps → ∀ (i : Nat) (q : Str × Int), ps[i]? = some q → ∃ t, vs[i]? = some (.ref t) ∧ H t = some (.tup [.str q.1, .int q.2])
  | _, _, .nil, _, _, h => by simp at h
  | _, _, .cons (t := t) h r, 0, q, e => by
    cases e
    exact ⟨t, rfl, h⟩
  | _, _, .cons h r, i + 1, q, e => r.at i q (by simpa using e)
def prD (p : Str × Int) : PyData := .tuple [.str p.1, .int p.2]
theorem PairVs.dp {K : PySem.W.Frag} {H : Hp} : ∀ {vs : List V} {ps : List (Str × Int)}, PairVs H vs ps → DpAll K H vs (ps.map prD)
  | _, _, .nil => .nil
  | _, _, .cons h r => .cons (.tup (SqT.of h) (.cons (.str _) (.cons (.int _) .nil))) r.dp
theorem prs_lay : ∀ {ps : List (Str × Int)}, (∀ p ∈ ps, PySem.PyData.strOk p.1 = true) → PyData.canLayAll0 (ps.map prD) = true
  | [], _ => rfl
  | p :: ps, h => by
    show (PyData.canLay0 (prD p) && PyData.canLayAll0 (ps.map prD)) = true
    rw [prs_lay (fun q hq => h q (List.mem_cons_of_mem _ hq))]
    have e : PyData.canLay0 (prD p) = (PySem.PyData.strOk p.1 && true) := by
      simp [prD, PyData.canLay0, PyData.canLayAll0]
    rw [e, h p List.mem_cons_self]
    rfl
theorem prs_deep : ∀ ps : List (Str × Int), PyData.depthAll (ps.map prD) ≤ 1
  | [] => by simp [PyData.depthAll]
  | p :: ps => by
    have h := prs_deep ps
    have e : PyData.depth (prD p) = 1 := by simp [prD, PyData.depth, PyData.depthAll]
    show max (PyData.depth (prD p)) (PyData.depthAll (ps.map prD)) ≤ 1
    rw [e]
    omega
theorem prs_sh {ps : List (Str × Int)} (h : ∀ p ∈ ps, PySem.PyData.strOk p.1 = true) : SeqAt.shaped (.tuple (ps.map prD)) = true := by
  have h1 : PyData.canLay0 (.tuple (ps.map prD)) = true := prs_lay h
  have h2 : PyData.depth (.tuple (ps.map prD)) ≤ 64 := by
    have := prs_deep ps
    show PyData.depthAll (ps.map prD) + 1 ≤ 64
    omega
  unfold SeqAt.shaped
  rw [h1]
  simp [h2]
def PairsAt (H : Hp) (p : Addr) (ps : List (Str × Int)) : Prop := ∃ vs, Rd H p (.tup vs) ∧ PairVs H vs ps
/-- a tuple of pairs that is known to have no dict -/
def PairsF (H : Hp) (p : Addr) (ps : List (Str × Int)) : Prop := ∃ vs, SX.FzT H p vs ∧ PairVs H vs ps
theorem PairsF.at {H : Hp} {p : Addr} {ps : List (Str × Int)} (h : PairsF H p ps) : PairsAt H p ps := by
  obtain ⟨vs, ⟨o, e, _⟩, h⟩ := h
  exact ⟨vs, .inr ⟨o, e⟩, h⟩
theorem PairsAt.fw {H H' : Hp} {p : Addr} {ps : List (Str × Int)} {Ts : List Addr} (t : Tabs Ts H) (f : Fw Ts H H') (h : PairsAt H p ps) : PairsAt H' p ps := by
  obtain ⟨vs, h1, h2⟩ := h
  refine ⟨vs, ?_, h2.kt (f.kt t)⟩
  rcases h1 with h1 | ⟨o, h1⟩
  · exact .inl (f.kt t _ _ h1)
  · exact .inr ⟨o, f.obj t h1 fun ps z => by cases z⟩
theorem PairsF.fw {H H' : Hp} {p : Addr} {ps : List (Str × Int)} {Ts : List Addr} (t : Tabs Ts H) (f : Fw Ts H H') (h : PairsF H p ps) : PairsF H' p ps := by
  obtain ⟨vs, ⟨o, h1, r⟩, h2⟩ := h
  exact ⟨vs, ⟨o, f.obj t h1 fun ps z => (by cases z), r⟩, h2.kt (f.kt t)⟩
theorem PairsAt.same {H H' : Hp} {p : Addr} {ps : List (Str × Int)} (s : Same H H') (h : PairsAt H p ps) : PairsAt H' p ps := by
  obtain ⟨vs, h1, h2⟩ := h
  refine ⟨vs, ?_, h2.same s⟩
  rcases h1 with h1 | ⟨o, h1⟩
  · exact .inl (s _ _ h1)
  · exact .inr ⟨o, s _ _ h1⟩
theorem PairsF.same {H H' : Hp} {p : Addr} {ps : List (Str × Int)} (s : Same H H') (h : PairsF H p ps) : PairsF H' p ps := by
  obtain ⟨vs, ⟨o, h1, r⟩, h2⟩ := h
  exact ⟨vs, ⟨o, s _ _ h1, r⟩, h2.same s⟩
end My

namespace My
open PySem PySem.Spec PyProof.Rows L2 GX GxR
/-- how often each number that is wanted goes into the room's -/
def quots : List Int → List Int → List Int
  | x :: xs, y :: ys => if 0 < x then y / x :: quots xs ys else quots xs ys
  | _, _ => []
theorem quots_snoc : ∀ (xs ys : List Int) (x y : Int), xs.length = ys.length → quots (xs ++ [x]) (ys ++ [y]) = quots xs ys ++ (if 0 < x then [y / x] else [])
  | [], [], x, y, _ => rfl
  | a :: xs, b :: ys, x, y, h => by
    have ih := quots_snoc xs ys x y (by simpa using h)
    show (if 0 < a then b / a :: quots (xs ++ [x]) (ys ++ [y]) else quots (xs ++ [x]) (ys ++ [y])) = (if 0 < a then b / a :: quots xs ys else quots xs ys) ++ _
    rw [ih]
    split <;> rfl
theorem quots_len : ∀ xs ys : List Int, (quots xs ys).length ≤ xs.length
  | [], _ => Nat.zero_le _
  | _ :: _, [] => Nat.zero_le _
  | x :: xs, y :: ys => by
    have ih := quots_len xs ys
    show (if 0 < x then y / x :: quots xs ys else quots xs ys).length ≤ xs.length + 1
    split
    · rw [List.length_cons]
      omega
    · omega
def fitN (xs : List Int) (n : Int) (ys : List Int) : Bool := (List.zipWith (fun x y : Int => decide (x * n ≤ y)) xs ys).all _root_.id
theorem quots_ne : ∀ xs ys : List Int, xs.length = ys.length → (∃ x ∈ xs, 0 < x) → quots xs ys ≠ []
  | [], _, _, ⟨_, h, _⟩ => by cases h
  | x :: xs, y :: ys, hl, ⟨z, hz, h0⟩ => by
    show (if 0 < x then y / x :: quots xs ys else quots xs ys) ≠ []
    by_cases hx : 0 < x
    · rw [if_pos hx]
      exact List.cons_ne_nil _ _
    · rw [if_neg hx]
      rcases List.mem_cons.mp hz with e | e
      · rw [e] at h0
        exact absurd h0 hx
      · exact quots_ne xs ys (by simpa using hl) ⟨z, e, h0⟩
theorem fits_most : ∀ (xs ys : List Int) (m : Int), (∀ x ∈ xs, 0 ≤ x) → (∀ y ∈ ys, 0 ≤ y) → (∀ z ∈ quots xs ys, m ≤ z) → fitN xs m ys = true
  | [], _, _, _, _, _ => rfl
  | _ :: _, [], _, _, _, _ => rfl
  | x :: xs, y :: ys, m, hx, hy, hq => by
    have x0 := hx x List.mem_cons_self
    have y0 := hy y List.mem_cons_self
    have hsub : ∀ z ∈ quots xs ys, m ≤ z := fun z hz => hq z (by
      show z ∈ (if 0 < x then y / x :: quots xs ys else quots xs ys)
      split
      · exact List.mem_cons_of_mem _ hz
      · exact hz)
    have ih := fits_most xs ys m (fun z h => hx z (List.mem_cons_of_mem _ h)) (fun z h => hy z (List.mem_cons_of_mem _ h)) hsub
    have h1 : x * m ≤ y := by
      by_cases hp : 0 < x
      · have h2 : m ≤ y / x := hq _ (by
          show y / x ∈ (if 0 < x then y / x :: quots xs ys else quots xs ys)
          rw [if_pos hp]
          exact List.mem_cons_self)
        have h3 := (Int.le_ediv_iff_mul_le hp).mp h2
        rw [Int.mul_comm] at h3
        exact h3
      · have : x = 0 := by omega
        rw [this, Int.zero_mul]
        exact y0
    unfold fitN at ih ⊢
    rw [List.zipWith_cons_cons, List.all_cons, ih, decide_eq_true h1]
    rfl
theorem fits_no_more : ∀ (xs ys : List Int) (m : Int), m ∈ quots xs ys → fitN xs (m + 1) ys = false
  | [], _, _, h => by cases h
  | _ :: _, [], _, h => by cases h
  | x :: xs, y :: ys, m, h => by
    have h' : m ∈ (if 0 < x then y / x :: quots xs ys else quots xs ys) := h
    unfold fitN
    rw [List.zipWith_cons_cons, List.all_cons]
    by_cases hp : 0 < x
    · rw [if_pos hp] at h'
      rcases List.mem_cons.mp h' with e | e
      · have h3 : ¬ x * (m + 1) ≤ y := fun z => by
          rw [Int.mul_comm] at z
          have h4 := (Int.le_ediv_iff_mul_le hp).mpr z
          omega
        rw [decide_eq_false h3]
        rfl
      · have ih := fits_no_more xs ys m e
        unfold fitN at ih
        rw [ih, Bool.and_false]
    · rw [if_neg hp] at h'
      have ih := fits_no_more xs ys m h'
      unfold fitN at ih
      rw [ih, Bool.and_false]
theorem quots_nn : ∀ (xs ys : List Int), (∀ y ∈ ys, 0 ≤ y) → ∀ z ∈ quots xs ys, 0 ≤ z
  | [], _, _, _, h => by cases h
  | _ :: _, [], _, _, h => by cases h
  | x :: xs, y :: ys, hy, z, h => by
    have h' : z ∈ (if 0 < x then y / x :: quots xs ys else quots xs ys) := h
    by_cases hp : 0 < x
    · rw [if_pos hp] at h'
      rcases List.mem_cons.mp h' with e | e
      · rw [e]
        exact Int.ediv_nonneg (hy y List.mem_cons_self) (by omega)
      · exact quots_nn xs ys (fun w hw => hy w (List.mem_cons_of_mem _ hw)) z e
    · rw [if_neg hp] at h'
      exact quots_nn xs ys (fun w hw => hy w (List.mem_cons_of_mem _ hw)) z h'
/-- the least of some numbers -/
def leastL : List Int → Int
  | [] => 0
  | x :: r => r.foldl min x
theorem fold_min_le : ∀ (r : List Int) (x : Int), r.foldl min x ≤ x ∧ (∀ y ∈ r, r.foldl min x ≤ y) ∧ (r.foldl min x = x ∨ r.foldl min x ∈ r)
  | [], x => ⟨Int.le_refl _, (fun _ h => nomatch h), .inl rfl⟩
  | y :: r, x => by
    obtain ⟨h1, h2, h3⟩ := fold_min_le r (min x y)
    show (r.foldl min (min x y)) ≤ x ∧ (∀ z ∈ y :: r, r.foldl min (min x y) ≤ z) ∧ (r.foldl min (min x y) = x ∨ r.foldl min (min x y) ∈ y :: r)
    refine ⟨by omega, fun z hz => ?_, ?_⟩
    · rcases List.mem_cons.mp hz with e | e
      · rw [e]; omega
      · exact h2 z e
    · rcases h3 with e | e
      · by_cases hxy : x ≤ y
        · left; omega
        · right; rw [e]; rw [show min x y = y by omega]; exact List.mem_cons_self
      · exact .inr (List.mem_cons_of_mem _ e)
theorem least_mem {l : List Int} (h : l ≠ []) : leastL l ∈ l ∧ ∀ z ∈ l, leastL l ≤ z := by
  cases l with
  | nil => exact absurd rfl h
  | cons x r =>
    obtain ⟨h1, h2, h3⟩ := fold_min_le r x
    refine ⟨?_, fun z hz => ?_⟩
    · rcases h3 with e | e
      · show r.foldl min x ∈ x :: r
        rw [e]; exact List.mem_cons_self
      · exact List.mem_cons_of_mem _ e
    · rcases List.mem_cons.mp hz with e | e
      · rw [e]; exact h1
      · exact h2 z e
theorem least_is {l : List Int} {m : Int} (h1 : m ∈ l) (h2 : ∀ z ∈ l, m ≤ z) : m = leastL l := by
  obtain ⟨g1, g2⟩ := least_mem (l := l) (fun e => by rw [e] at h1; cases h1)
  have a1 := h2 _ g1
  have a2 := g2 _ h1
  omega
/-- how often a want fits in what is left, at most so often -/
def cnt (most : Int) (xs ys : List Int) : Int := if leastL (quots xs ys) < most then leastL (quots xs ys) else most
theorem fit_iff {xs ys : List Int} {n : Int} (hx : ∀ x ∈ xs, 0 ≤ x) (hy : ∀ y ∈ ys, 0 ≤ y) (hl : xs.length = ys.length) (hne : quots xs ys ≠ []) : fitN xs n ys = decide (n ≤ leastL (quots xs ys)) := by
  obtain ⟨g1, g2⟩ := least_mem hne
  by_cases h : n ≤ leastL (quots xs ys)
  · rw [decide_eq_true h]
    exact fits_most xs ys n hx hy fun z hz => Int.le_trans h (g2 z hz)
  · rw [decide_eq_false h]
    have nf := fits_no_more xs ys _ g1
    cases e : fitN xs n ys with
    | false => rfl
    | true =>
      exfalso
      have mono : ∀ (xs ys : List Int) (a b : Int), (∀ x ∈ xs, 0 ≤ x) → a ≤ b → fitN xs b ys = true → fitN xs a ys = true := by
        intro xs
        induction xs with
        | nil => intro ys a b _ _ _; rfl
        | cons x xs ih =>
          intro ys a b hx hab hb
          cases ys with
          | nil => rfl
          | cons y ys =>
            unfold fitN at hb ⊢
            rw [List.zipWith_cons_cons, List.all_cons, Bool.and_eq_true] at hb ⊢
            refine ⟨decide_eq_true ?_, ih ys a b (fun z h => hx z (List.mem_cons_of_mem _ h)) hab hb.2⟩
            have h1 : x * b ≤ y := of_decide_eq_true hb.1
            exact Int.le_trans (Int.mul_le_mul_of_nonneg_left hab (hx x List.mem_cons_self)) h1
      have := mono xs ys (leastL (quots xs ys) + 1) n hx (by omega) e
      rw [nf] at this
      cases this
/-- a generator expression over a list that its element leaves as it is -/
theorem gx_list {K : PySem.W.Frag} {a : Addr} {xs : List V} {g : TG} {te : TE} {vs : List Nat} {σ' : L2.St} {cont : List V → Hp → Prop} {H2 : Hp} (Pv : Nat → List V → Hp → Prop) (h0 : Pv 0 [] H2) (hn : xs.length ≤ sizeLine) (hl : ∀ i ys H, i ≤ xs.length → Pv i ys H → SqL K H a xs ∧ ys.length = i)
    (hs : ∀ (i : Nat) (x : V) (ys : List V) (H : Hp) (Kk : V → Hp → Prop), (∀ y H3, Pv (i + 1) (ys ++ [y]) H3 → Kk y H3) → xs[i]? = some x → Pv i ys H → g x σ' H fun σb H2 => wipe σb vs = σ' ∧ te σb H2 Kk) (hd : ∀ ys H, Pv xs.length ys H → cont ys H) :
    ∃ W : Nat → Nat → List V → Hp → Prop, (∃ m, W 0 m [] H2) ∧ GW.Turns (Itl K a) g te vs σ' cont W := by
  refine ⟨fun i m ys H => m = xs.length - i ∧ i ≤ xs.length ∧ Pv i ys H, ⟨xs.length, rfl, Nat.zero_le _, h0⟩, ?_⟩
  rintro i m ys H ⟨rfl, hi, p⟩
  obtain ⟨q, hy⟩ := hl i ys H hi p
  by_cases hlt : i < xs.length
  · refine .inr ⟨⟨xs, xs[i], q, by simp [hlt]⟩, by omega, fun x H' y => ?_⟩
    obtain ⟨e, y⟩ := y
    subst e
    exact hs i x ys _ _ (fun v H3 h3 => ⟨xs.length - (i + 1), by omega, rfl, hlt, h3⟩) (y xs q) p
  · have e : i = xs.length := by omega
    subst e
    exact .inl ⟨⟨xs, q, Nat.le_refl _⟩, hd ys H p⟩
end My

set_option maxHeartbeats 1000000
/-! sorted of a list of data of any kind -/
namespace SX
open PySem PySem.W PySem.Spec PyProof.Rows L2
def dLe (x y : V × PyData) : Bool := dataLe false (fun b : V × PyData => b.2) x y
def rSortDt (K : PySem.W.Frag) : List V → Hp → VK → Prop := fun vs H Q => ∃ (a : Addr) (bs : List (V × PyData)), vs = [V.ref a] ∧ SqL K H a (bs.map (·.1)) ∧ (∀ b ∈ bs, Dp K H b.1 b.2 ∧ b.2.depth ≤ 50) ∧ AllAlike (bs.map (·.2)) ∧ Sortable (bs.map (·.2)) ∧
  ∀ (cs : List (V × PyData)) (p : Addr), cs.Perm bs → cs.Pairwise (fun x y => dLe x y = true) → H p = none → Q (.ref p) (upd H p (.lst (cs.map (·.1))))
section
variable {X : Cx}
theorem each_rel : ∀ {bs : List (V × PyData)} {us : List Value}, Vals (bs.map (·.1)) us → EachIs (fun (v : Value) (b : V × PyData) => RelV b.1 v) us bs
  | [], us, r => by cases r; exact .nil
  | z :: ys, us, r => by cases r with | cons r t => exact .cons r (each_rel t)
theorem vals_rel {us : List Value} {ys : List (V × PyData)} (e : EachIs (fun (v : Value) (b : V × PyData) => RelV b.1 v) us ys) : Vals (ys.map (·.1)) us := by
  induction e with
  | nil => exact .nil
  | cons r t ih => exact .cons r ih
theorem each_and {α β : Type} {R : α → β → Prop} {S : β → Prop} {as : List α} {bs : List β} (e : EachIs R as bs) : (∀ b ∈ bs, S b) → EachIs (fun a b => R a b ∧ S b) as bs := by
  induction e with
  | nil => exact fun _ => .nil
  | cons r t ih => exact fun h => .cons ⟨r, h _ List.mem_cons_self⟩ (ih fun b hb => h b (List.mem_cons_of_mem _ hb))
theorem cr_sortDt (hu : X.A.units + 64 < cLine) : CallR X (.builtin "sorted") (rSortDt X.K) := by
  intro pins s σ H vs us Q I r h
  obtain ⟨a, bs, rfl, hs, hd, hal, hso, q⟩ := h
  obtain ⟨its, rv, hl, hz⟩ := I.list hs
  rw [Vals.ref1 r]
  have ea := each_rel rv
  refine sorted_data (enc := fun b : V × PyData => b.2) hl.isList ea ((each_and ea hd).mono fun v b h => ?_) hal hso (by rw [List.length_map] at hz; exact hz) (fun b hb => ?_) fun out ho eo => ?_
  · exact Dp.reads I b.2 b.1 v h.2.1 h.1
  · have := (hd b hb).2
    show X.A.units + 2 + b.2.depth < cLine
    omega
  obtain ⟨ep, at1⟩ := sortedAll_at s.heap its out.toArray
  have tl := sortLe_total (listOrd itemOrd) false fun b : V × PyData => keyToks b.2
  refine ⟨.ref _, upd H (s.heap.objs.size + 1) (.lst ((bs.mergeSort (dataLe false fun b : V × PyData => b.2)).map (·.1))), I.laid (t' := s.toks) (fun _ _ => sortedAll_old) (Nat.le_succ _) ⟨?_, out, ep, vals_rel eo, at1⟩, rfl,
    q _ _ (List.mergeSort_perm _ _) (List.pairwise_mergeSort (fun a b c => tl.trans a b c) (fun a b => by rw [Bool.or_eq_true]; exact tl.total a b) bs) (I.hok.fresh (Nat.le_succ _))⟩
  rw [List.length_map, List.length_mergeSort]
  rw [List.length_map] at hz
  exact hz
/-- tuples with a text ahead stand in the order of their texts -/
theorem dLe_str {x y : V × PyData} {a b : Str} {r r' : List PyData} (hx : x.2 = .tuple (.str a :: r)) (hy : y.2 = .tuple (.str b :: r')) (h : dLe x y = true) : ltCps b.cps.toList a.cps.toList = false := by
  unfold dLe dataLe sortLe at h
  have h : (!lexLt itemOrd (keyToks y.2) (keyToks x.2)) = true := h
  rw [hx, hy] at h
  have h : (!lexLt itemOrd (.inl 1 :: .inr b.cps.toList :: keyToksAll r') (.inl 1 :: .inr a.cps.toList :: keyToksAll r)) = true := h
  simp only [PyProof.Rows.lexLt] at h
  have h : (!(itemLt (.inl 1) (.inl 1) || (!itemLt (.inl 1) (.inl 1) && (itemLt (.inr b.cps.toList) (.inr a.cps.toList) || (!itemLt (.inr a.cps.toList) (.inr b.cps.toList) && lexLt itemOrd (keyToksAll r') (keyToksAll r)))))) = true := h
  cases e : itemLt (.inr b.cps.toList) (.inr a.cps.toList) with
  | false =>
    have e2 : dataLt (PyData.str b) (PyData.str a) = false := by
      show lexLt itemOrd [.inr b.cps.toList] [.inr a.cps.toList] = false
      simp only [PyProof.Rows.lexLt]
      show (itemLt (.inr b.cps.toList) (.inr a.cps.toList) || (!itemLt (.inr a.cps.toList) (.inr b.cps.toList) && false)) = false
      rw [e, Bool.and_false]
      rfl
    rw [dataLt_str, lt_meets] at e2
    exact e2
  | true =>
    rw [e] at h
    simp [itemLt] at h
end
end SX

set_option maxHeartbeats 2000000
/-! sorted of a set of pairs of whole numbers, of any sign -/
namespace ST
open PySem PySem.Spec PyProof.Rows L2 PpSet PySem.W
def encP (q : Addr × List Int) : PyData := .tuple (q.2.map PyData.int)
/-- what is a permutation of an image is an image of a permutation -/
theorem perm_image {α β : Type} {f : α → β} {xs zs : List β} (h : xs.Perm zs) : ∀ ys : List α, zs = ys.map f → ∃ ws : List α, ws.Perm ys ∧ xs = ws.map f := by
  induction h with
  | nil =>
    intro ys e
    cases ys with
    | nil => exact ⟨[], .nil, rfl⟩
    | cons y ys => cases e
  | cons x h ih =>
    intro ys e
    cases ys with
    | nil => cases e
    | cons y ys =>
      injection e with e1 e2
      obtain ⟨ws, p, r⟩ := ih ys e2
      exact ⟨y :: ws, p.cons y, by rw [List.map_cons, ← e1, ← r]⟩
  | swap x y l =>
    intro ys e
    match ys, e with
    | a :: b :: ys, e =>
      injection e with e1 e2
      injection e2 with e2 e3
      exact ⟨b :: a :: ys, .swap a b ys, by rw [List.map_cons, List.map_cons, ← e1, ← e2, ← e3]⟩
  | trans h1 h2 ih1 ih2 =>
    intro ys e
    obtain ⟨ws, p, r⟩ := ih2 ys e
    obtain ⟨vs, p', r'⟩ := ih1 ws r
    exact ⟨vs, p'.trans p, r'⟩
section
variable {X : Cx}
def rSortP (K : PySem.W.Frag) (P : Program) (w : World) : List V → Hp → VK → Prop := fun vs H Q => ∃ (a : Addr) (L : List (Addr × List Int)), vs = [V.ref a] ∧ H a = some (SetTO P w a L) ∧ (∀ p ∈ L, SqT K H p.1 (p.2.map V.int) ∧ p.2.length = 2) ∧
  ∀ (M : List (Addr × List Int)) (p : Addr), M.Perm L → (L.map (·.2)).Nodup → M.Pairwise (fun q r => dataLe false encP q r = true) → H p = none → Q (.ref p) (upd H p (.lst (M.map fun q => V.ref q.1)))
theorem cr_sortP (hc : X.calm = true) (hu : X.A.units + 64 < cLine) : CallR X (.builtin "sorted") (rSortP X.K X.prog X.w) := by
  intro pins s σ H vs us Q I r h
  obtain ⟨a, L, rfl, ha, hk, q⟩ := h
  obtain ⟨es, ep, t, R⟩ := SetT0.full (P := X.prog) (w := X.w) (I.hok a _ ha).1 fun p hp => I.isT (hk p hp).1
  obtain ⟨ob, hob, hex, hdat⟩ := R.ob
  have few := R.few
  have hsz := R.size
  rw [Vals.ref1 r]
  refine Calls.call_function_entry kind_sorted plain_sorted entry_sorted (args_sorted1 _) ?_
  unfold Builtin.«sorted»
  refine wpAny_bind (m := checkCount "sorted" 1 1 _) (wpAny_pure ?_)
  refine wpAny_bind (collect_set (A := X.A.in1) (I.ok.hd hc) ⟨ob, hob, hex.1, hdat⟩ R.fits (by unfold scanBound; omega) R.tab.ris R.led fun s1 us k1 hz g1 o1 pe => ?_)
  obtain ⟨L1, pL, eu⟩ := perm_image pe L (show es.toList.map (·.2) = L.map (fun q => Value.ref q.1) by rw [R.rows]; unfold L2.rowsOf; rw [List.map_map] <;> rfl)
  subst eu
  have l1 : L1.length < 64 := by rw [pL.length_eq]; exact few
  have lz : (L1.map fun q => Value.ref q.1).length ≤ sizeLine := by
    rw [List.length_map, sizeLine_eq]
    omega
  refine wpAny_bind (wpAny_newList ?_ lz)
  generalize hvs : (L1.map fun q => Value.ref q.1) = vs at lz
  have hoL : (s1.heap.push (seqObj "list" vs.toArray 0)).get? s1.heap.objs.size = some (seqObj "list" vs.toArray 0) := Heap.get?_push_size _ rfl
  have each : ∀ {Ls : List (Addr × List Int)}, EachIs (fun (v : Value) (q : Addr × List Int) => v = Value.ref q.1) (Ls.map fun q => Value.ref q.1) Ls := by
    intro Ls
    induction Ls with
    | nil => exact .nil
    | cons q Ls ih => exact .cons rfl ih
  have back : ∀ {us : List Value} {Ls : List (Addr × List Int)}, EachIs (fun (v : Value) (q : Addr × List Int) => v = Value.ref q.1) us Ls → Vals (Ls.map fun q => V.ref q.1) us := by
    intro us Ls e
    induction e with
    | nil => exact .nil
    | cons r t ih => exact .cons (by rw [r]; rfl) ih
  have rds : ∀ {Ls : List (Addr × List Int)}, (∀ q ∈ Ls, q ∈ L) → EachIs (fun (v : Value) (q : Addr × List Int) => ∃ as, Reads (s1.heap.push (seqObj "list" vs.toArray 0)) v (encP q) as ∧ s1.heap.objs.size ∉ as) (Ls.map fun q => Value.ref q.1) Ls := by
    intro Ls
    induction Ls with
    | nil => exact fun _ => .nil
    | cons q Ls ih =>
      intro hs
      refine .cons ?_ (ih fun p hp => hs p (List.mem_cons_of_mem _ hp))
      obtain ⟨its, rv, ⟨o, ho, hcl, n, hd⟩, _⟩ := I.tuple (hk q (hs q List.mem_cons_self)).1
      have ra : ∀ {ns : List Int} {us : List Value}, Vals (ns.map V.int) us → ReadsAll (s1.heap.push (seqObj "list" vs.toArray 0)) us (ns.map PyData.int) [] := by
        intro ns
        induction ns with
        | nil => intro us r; cases r; exact .nil
        | cons m ns ih2 =>
          intro us r
          cases r with
          | cons r t =>
            obtain ⟨tk, rfl⟩ := r
            exact .cons (as := []) (bs := []) (Reads.int ..) (ih2 t) 
      have hold : s1.heap.get? q.1 = some o := k1 _ _ ho
      exact ⟨[], .tuple (Heap.get?_push_of_some _ hold) hcl hd (by simpa using ra rv), fun hm => nomatch hm⟩
  have e1 : EachIs (fun (v : Value) (q : Addr × List Int) => v = Value.ref q.1) vs L1 := hvs ▸ each
  have e2 := rds (Ls := L1) fun q hq => pL.mem_iff.mp hq
  rw [hvs] at e2
  refine wpAny_bind (wpAny_holding (list_sort_data (s := { s1 with heap := s1.heap.push (seqObj "list" vs.toArray 0) }) (enc := encP) hoL e1 e2 ?_ ?_ (by rw [← e1.length]; exact lz) (fun q hq => ?_) fun out lo eo => ?_))
  · intro d hd d' hd'
    obtain ⟨p, hp, rfl⟩ := List.mem_map.mp hd
    obtain ⟨p', hp', rfl⟩ := List.mem_map.mp hd'
    have al : ∀ ns ms : List Int, alikeAll (ns.map PyData.int) (ms.map PyData.int) = true := by
      intro ns
      induction ns with
      | nil => intro ms; cases ms <;> rfl
      | cons n ns ih =>
        intro ms
        cases ms with
        | nil => rfl
        | cons m ms => simp only [List.map_cons, alikeAll, alike, Bool.true_and]; exact ih ms
    show alikeAll _ _ = true
    exact al _ _
  · refine .inl fun d hd => ?_
    obtain ⟨p, hp, rfl⟩ := List.mem_map.mp hd
    have h2 := (hk p (pL.mem_iff.mp hp)).2
    obtain ⟨pa, pn⟩ := p
    match pn, h2 with
    | [x, y], _ => exact ⟨_, _, rfl⟩
  · have dp : (encP q).depth ≤ 1 := by
      show PyData.depthAll (q.2.map PyData.int) + 1 ≤ 1
      rw [depth_ints]
      exact Nat.le_refl _
    show X.A.units + 1 + 1 + _ < cLine
    omega
  obtain ⟨c, at1⟩ := sortedHeap_at (vs := vs) (out := out.toArray) hoL
  have keep : ∀ b u, s.heap.get? b = some u → (sortedHeap (s1.heap.push (seqObj "list" vs.toArray 0)) s1.heap.objs.size vs out.toArray).get? b = some u := fun b u e => by
    have hq := k1 b u e
    have hlt := Heap.lt_size hq
    rw [sortedHeap_old (Nat.ne_of_lt hlt) (by rw [size_push']; exact Nat.lt_succ_of_lt hlt)]
    exact Heap.get?_push_of_some _ hq
  have hn : H s1.heap.objs.size = none := I.hok.fresh hz
  have hlen : ((L1.mergeSort (dataLe false encP)).map fun q => V.ref q.1).length ≤ sizeLine := by
    rw [List.length_map, List.length_mergeSort, sizeLine_eq]
    omega
  have J : Inv X pins σ (upd H s1.heap.objs.size (.lst ((L1.mergeSort (dataLe false encP)).map fun q => V.ref q.1))) { s with heap := sortedHeap (s1.heap.push (seqObj "list" vs.toArray 0)) s1.heap.objs.size vs out.toArray, gens := s1.gens, drawn := s1.drawn, toks := s1.toks } :=
    I.call (ch := []) (Un.laid keep hz hn) (I.hok.laid keep hz ⟨hlen, out, c, back eo, at1⟩) (by rw [g1]; exact I.bare) (fun _ z => nomatch z)
  have es1 : ({ s1 with heap := sortedHeap (s1.heap.push (seqObj "list" vs.toArray 0)) s1.heap.objs.size vs out.toArray } : Shared) = { s with heap := sortedHeap (s1.heap.push (seqObj "list" vs.toArray 0)) s1.heap.objs.size vs out.toArray, gens := s1.gens, drawn := s1.drawn, toks := s1.toks } := by
    cases s1
    cases s
    cases o1
    rfl
  refine wpAny_pure ⟨_, rfl, ?_⟩
  rw [es1]
  have tl := sortLe_total (listOrd itemOrd) false fun q : Addr × List Int => keyToks (encP q)
  exact ⟨.ref _, _, J, rfl, q _ _ ((List.mergeSort_perm _ _).trans pL) R.nd (List.pairwise_mergeSort (fun a b c => tl.trans a b c) (fun a b => by rw [Bool.or_eq_true]; exact tl.total a b) L1) hn⟩
end
/-- pairs, in their order -/
theorem pair_le {x y : Addr × List Int} {a b c d : Int} (hx : x.2 = [a, b]) (hy : y.2 = [c, d]) : dataLe false encP x y = true ↔ (a < c ∨ (a = c ∧ b ≤ d)) := by
  unfold dataLe sortLe
  show (!lexLt itemOrd (keyToks (encP y)) (keyToks (encP x))) = true ↔ _
  unfold encP
  rw [hx, hy]
  show (!lexLt itemOrd [.inl 1, .inl c, .inl 1, .inl d, .inl 0] [.inl 1, .inl a, .inl 1, .inl b, .inl 0]) = true ↔ _
  simp only [PyProof.Rows.lexLt]
  show (!(itemLt (.inl 1) (.inl 1) || (!itemLt (.inl 1) (.inl 1) && (itemLt (.inl c) (.inl a) || (!itemLt (.inl a) (.inl c) && (itemLt (.inl 1) (.inl 1) || (!itemLt (.inl 1) (.inl 1) && (itemLt (.inl d) (.inl b) || (!itemLt (.inl b) (.inl d) && (itemLt (.inl 0) (.inl 0) || (!itemLt (.inl 0) (.inl 0) && false))))))))))) = true ↔ _
  simp only [itemLt, Int.lt_irrefl, decide_false, Bool.false_or, Bool.not_false, Bool.true_and, Bool.and_false, Bool.or_false, Bool.not_eq_true', Bool.or_eq_false_iff, Bool.and_eq_false_iff, decide_eq_false_iff_not, decide_eq_true_eq, Bool.not_eq_false']
  omega
end ST

set_option maxHeartbeats 1000000
namespace My
open PySem PySem.Spec PyProof.Rows L2 GX GxR
open PySem.W (alike alikeAll AllAlike Sortable)
abbrev sMost : Stmt := topS 1
abbrev sCounts : Stmt := topS 6
abbrev nQ : List Str := ["want", "room", "need", "have"]
abbrev nCo : List Str := ["site", "many", "want", "how", "most"]
theorem scMost : FnScope nQ ["want", "room"] (defScope sMost) := ⟨rfl, rfl, rfl, by decide +kernel, rfl, by decide +kernel, by decide +kernel⟩
theorem scCounts : FnScope nCo ["site", "many", "want", "how"] (defScope sCounts) := ⟨rfl, rfl, rfl, by decide +kernel, rfl, by decide +kernel, by decide +kernel⟩
def spMost (K : PySem.W.Frag) : Sp := fun vs H Q _ => ∃ (a b : Addr) (xs ys : List Int), vs = [.ref a, .ref b] ∧ SqT K H a (xs.map V.int) ∧ SqT K H b (ys.map V.int) ∧ xs.length = ys.length ∧ xs.length ≤ 1000 ∧ Amt xs ∧ quots xs ys ≠ [] ∧
  ∀ m H', Same H H' → m ∈ quots xs ys → (∀ z ∈ quots xs ys, m ≤ z) → Q (.int m) H'
section
variable {P : Program} {w : World} {K : PySem.W.Frag} {mg : Str → Option Value} {base : Heap}
theorem ok_most {f : Addr} {fd : FuncData} {k : Nat} (F : Fun K "most_times" "most_times" sMost f fd) (X : Txt mg) : FnOk P w K mg base CX0 (k + 1) f fd ["want", "room"] (spMost K) := by
  refine F.ok scMost (fun vs H Q E h => ?_) (fun cdv A outer s H vs Q E hr h => ?_)
  · obtain ⟨a, b, xs, ys, rfl, _⟩ := h
    rfl
  · obtain ⟨a, b, xs, ys, rfl, hX, hY, hl, hl2, hA, hne, q⟩ := h
    refine ⟨_, pss_one (ps_ret (pe_callBK (cr_minD rfl (hu_of hr)) (by rfl) X.min (by decide +kernel) (pa_cons
      (pe_lc (own := [("need", 2), ("have", 3)]) (g := gTup K 2 (gCons (gName 2) (gCons (gName 3) gNil))) (tt := tTest (tOp (rI0 fun i j => .bl (decide (j < i))) (tVar 2) (tC (.int 0)))) rfl scMost.nd
        (RZ.pi_zipA (by rfl) X.zip (pa_cons (pv 0) (pa_cons (pv 1) pa_nil))) (blkOk_by (own := [("need", 2), ("have", 3)]) (N := nQ) (sc := defScope sMost) (by decide +kernel))
        (fun _ _ _ _ _ => pg_tup rfl (pgs_cons (pg_name (i := 2) scMost.nd rfl (Or.inl rfl)) (pgs_cons (pg_name (i := 3) scMost.nd rfl (Or.inl rfl)) pgs_nil)))
        (fun _ _ _ _ _ => pts_one (pt_cmpR op_gt (pv 2) pe_int (nomark _)))
        (fun _ _ _ _ _ => pe_op op_fdivW (pv 3) (pv 2))) pa_nil) (pk_cons pe_int pk_nil))), ?_⟩
    have hn : min ((xs.map V.int).length) ((ys.map V.int).length) = xs.length := by
      rw [List.length_map, List.length_map]
      omega
    refine ⟨_, rfl, _, rfl, a, b, _, _, rfl, .inr ⟨hX, hY, fun D nD => lc_it (walk_zipT (xs := xs.map V.int) (ys := ys.map V.int) hn.symm) (fun i H' => Same H H' ∧ H' D = some (.lst ((quots (xs.take i) (ys.take i)).map V.int))) ⟨same_upd nD, upd_same⟩ (fun i H' _ p => ?_) (fun i v H3 H4 hi p y => ?_) (fun H3 p => ?_)⟩⟩
    · exact ⟨same_seqT p.1 hX, same_seqT p.1 hY⟩
    · obtain ⟨T1, x1, x2, rfl, nT, rfl, g1, g2⟩ := y
      obtain ⟨p1, p2⟩ := p
      have hi2 : i < ys.length := by omega
      have e1 : xs[i]? = some xs[i] := List.getElem?_eq_getElem hi
      have e2 : ys[i]? = some ys[i] := List.getElem?_eq_getElem hi2
      have f1 : x1 = .int xs[i] := by
        have : (xs.map V.int)[i]? = some x1 := g1
        rw [List.getElem?_map, e1] at this
        exact (Option.some.inj this).symm
      have f2 : x2 = .int ys[i] := by
        have : (ys.map V.int)[i]? = some x2 := g2
        rw [List.getElem?_map, e2] at this
        exact (Option.some.inj this).symm
      subst f1 f2
      have s3 : Same H3 (upd H3 T1 (.tup [.int xs[i], .int ys[i]])) := same_upd nT
      have tk : quots (xs.take (i + 1)) (ys.take (i + 1)) = quots (xs.take i) (ys.take i) ++ (if 0 < xs[i] then [ys[i] / xs[i]] else []) := by
        rw [List.take_add_one, List.take_add_one, e1, e2]
        exact quots_snoc _ _ _ _ (by rw [List.length_take, List.length_take]; omega)
      have hx := hA xs[i] (List.getElem_mem hi)
      refine ⟨T1, [.int xs[i], .int ys[i]], rfl, SqT.of upd_same, rfl, .int xs[i], [.int ys[i]], rfl, .int ys[i], [], rfl, rfl, rfl, ?_⟩
      refine ⟨_, rfl, xs[i], 0, rfl, rfl, _, rfl, ite2 (fun e => ?_) (fun e => ?_)⟩
      · have e3 : 0 < xs[i] := of_decide_eq_true e
        refine ⟨_, rfl, _, rfl, ys[i], xs[i], rfl, rfl, wide_div (b := 64) e3 (by omega) (by decide) (by decide), _, s3 _ _ p2, ?_, fun x o e4 => ?_, ?_⟩
        · rw [List.length_map]
          exact small1000 (Nat.le_trans (quots_len _ _) (by rw [List.length_take]; omega))
        · rw [upd_ne (ne_of_none e4 nD)]
          exact s3 _ _ (p1 _ _ e4)
        · rw [upd_same, tk, if_pos e3, List.map_append]
          rfl
      · have e3 : ¬ 0 < xs[i] := fun z => e (decide_eq_true z)
        refine ⟨p1.trans s3, ?_⟩
        rw [tk, if_neg e3, List.append_nil]
        exact s3 _ _ p2
    · obtain ⟨p1, p2⟩ := p
      rw [List.take_of_length_le (Nat.le_refl _), List.take_of_length_le (by omega)] at p2
      exact ⟨D, _, .int 0, rfl, rfl, SqL.of p2, fun e => absurd e hne, fun m h1 h2 => q m _ p1 h1 h2⟩
end
/-- a house as data -/
def houseD (r : House) : PyData := .tuple [.str r.name, .str r.yard, .tuple (r.left.map PyData.int)]
theorem dpi14 {K : PySem.W.Frag} {H : Hp} : ∀ ns : List Int, DpAll K H (ns.map V.int) (ns.map PyData.int)
  | [] => .nil
  | n :: ns => .cons (.int n) (dpi14 ns)
theorem HouseAt.dp {K : PySem.W.Frag} {H : Hp} {v : V} {r : House} (h : HouseAt H v r) : Dp K H v (houseD r) := by
  obtain ⟨t, l, rfl, h1, h2⟩ := h
  exact .tup (SqT.of h1) (.cons (.str _) (.cons (.str _) (.cons (.tup (SqT.of h2) (dpi14 _)) .nil)))
theorem houses_pairs {H : Hp} : ∀ {vs : List V} {rs : List House}, Houses H vs rs → ∃ ps : List (V × House), ps.map (·.1) = vs ∧ ps.map (·.2) = rs ∧ ∀ p ∈ ps, HouseAt H p.1 p.2
  | _, _, .nil => ⟨[], rfl, rfl, fun _ h => nomatch h⟩
  | _, _, .snoc (v := v) (r := r) h x => by
    obtain ⟨ps, e1, e2, e3⟩ := houses_pairs h
    refine ⟨ps ++ [(v, r)], by rw [List.map_append, e1]; rfl, by rw [List.map_append, e2]; rfl, fun p hp => ?_⟩
    rcases List.mem_append.mp hp with z | z
    · exact e3 p z
    · rw [List.mem_singleton.mp z]; exact x
theorem depth_ints' : ∀ ns : List Int, PyData.depthAll (ns.map PyData.int) = 0
  | [] => by simp [PyData.depthAll]
  | n :: ns => by
    have := depth_ints' ns
    show max (PyData.depth (.int n)) (PyData.depthAll (ns.map PyData.int)) = 0
    rw [this]
    rfl
theorem alike_ints : ∀ ns ms : List Int, alikeAll (ns.map PyData.int) (ms.map PyData.int) = true
  | [], [] => rfl
  | [], _ :: _ => rfl
  | _ :: _, [] => rfl
  | n :: ns, m :: ms => by
    simp only [List.map_cons, alikeAll, alike, Bool.true_and]
    exact alike_ints ns ms
theorem house_alike (r r' : House) : alike (houseD r) (houseD r') = true := by
  show (alike (.str r.name) (.str r'.name) && (alike (.str r.yard) (.str r'.yard) && (alike (.tuple (r.left.map PyData.int)) (.tuple (r'.left.map PyData.int)) && alikeAll [] []))) = true
  show (true && (true && (alikeAll (r.left.map PyData.int) (r'.left.map PyData.int) && true))) = true
  rw [alike_ints]
  rfl
theorem house_depth (r : House) : (houseD r).depth ≤ 50 := by
  show PyData.depthAll [.str r.name, .str r.yard, .tuple (r.left.map PyData.int)] + 1 ≤ 50
  show max (PyData.depth (.str r.name)) (max (PyData.depth (.str r.yard)) (max (PyData.depthAll (r.left.map PyData.int) + 1) 0)) + 1 ≤ 50
  rw [depth_ints']
  show max 0 (max 0 (max (0 + 1) 0)) + 1 ≤ 50
  decide
theorem HouseAt.kpT {H H' : Hp} {v : V} {r : House} {T : Addr} (B : TabG H T) (s : Kp [T] H H') (h : HouseAt H v r) : HouseAt H' v r := by
  obtain ⟨xs, hb, _⟩ := B
  have ne : ∀ {x : Addr} {ys : List V}, H x = some (.tup ys) → x ∉ [T] := fun {x ys} e z => by
    rw [List.mem_singleton.mp z, hb] at e
    cases e
  obtain ⟨t, l, e, h1, h2⟩ := h
  exact ⟨t, l, e, s _ _ (ne h1) h1, s _ _ (ne h2) h2⟩
theorem sorted_names {cs : List (V × House)} (h : (cs.map fun p => (p.1, houseD p.2)).Pairwise (fun x y => SX.dLe x y = true)) : sortedS ((cs.map (·.2)).map (·.name)) = true := by
  rw [List.pairwise_map] at h
  refine SX.sorted_of ?_
  rw [List.map_map, List.pairwise_map]
  exact h.imp fun {a b} z => SX.dLe_str rfl rfl z
/-- the rows of counts -/
def rowsC (most : Int) (want : List Int) (rs : List House) : List (Str × Int) := rs.map fun r => (r.name, cnt most want r.left)
def mostOf (how : Str) (many : Int) : Int := if how = "apart" ∨ how = "wide" then 1 else many
def spCounts (T : Addr) : Sp := fun vs H Q _ => ∃ (s pw : Addr) (many : Int) (how : Str) (want : List Int) (rs : List House), vs = [.ref s, .int many, .ref pw, .str how] ∧ SiteAt want.length H s rs ∧ H pw = some (.tup (want.map V.int)) ∧ Amt want ∧ (∃ n ∈ want, n ≠ 0) ∧ want.length ≤ 8 ∧ 1 ≤ many ∧ TabG H T ∧
  ∀ (p : Addr) (rs' : List House) (H' : Hp), rs'.Perm rs → sortedS (rs'.map (·.name)) = true → TabG H' T → Kp [T] H H' → H p = none → PairsF H' p (rowsC (mostOf how many) want rs') → Q (.ref p) H'
section
variable {P : Program} {w : World} {K : PySem.W.Frag} {mg : Str → Option Value} {base : Heap}
theorem in_two (how : Str) : inV (.str how) [.str "apart", .str "wide"] = true ↔ (how = "apart" ∨ how = "wide") := by
  simp [inV, eqV]
  exact ⟨fun h => h.imp Eq.symm Eq.symm, fun h => h.imp Eq.symm Eq.symm⟩
abbrev nGx : List Str := ["house", "yard", "left", "want", "most"]
theorem nd_gx : nGx.Nodup := by decide +kernel
def gxC (sc scope : Scope) : Bool := decide (scope.kind = .function) && decide (scope.isCoroutine = false) && scope.names.all (fun y => decide (y.2 ≠ .cell)) && decide (scope.names.lookup (".0" : Str) = some NameKind.local) && scope.names.all (fun y => decide (y.2 = .free → sc.names.lookup y.1 = some .cell ∨ sc.names.lookup y.1 = some .free))
theorem gxv_of {sc scope : Scope} (h : gxC sc scope = true) : GW.GxV sc scope := by
  unfold gxC at h
  simp only [Bool.and_eq_true, decide_eq_true_eq, List.all_eq_true] at h
  obtain ⟨⟨⟨⟨h1, h2⟩, h3⟩, h4⟩, h5⟩ := h
  exact ⟨h1, h2, h3, h4, fun y hy => h5 y hy⟩
abbrev fsGx (σ : L2.St) : L2.St := [none, none, none, (σ[2]?).join, (σ[4]?).join]
theorem ok_counts {f c T fM : Addr} {fd fdM : FuncData} {k : Nat} {t1 t2 : Tok} (F : FunC K "counts_of" "counts_of" sCounts f fd c) (X : Txt mg) (mSorted : mg "sorted" = none) (TB : TabB base mg c T) (mA : mg "APART" = some (.str "apart" t1)) (mW : mg "WIDE" = some (.str "wide" t2))
    (GM : FnOk P w K mg base CX0 k fM fdM ["want", "room"] (spMost K)) (mM : mg "most_times" = some (.ref fM)) (kM : PySem.W.keepIn K (.ref fM) = true) (bM : Binds K fdM ["want", "room"] []) :
    FnOk P w K mg base CX0 (k + 7) f fd ["site", "many", "want", "how"] (spCounts T) := by
  refine F.ok scCounts (fun vs H Q E h => ?_) (fun A outer s H vs Q E hr h => ?_)
  · obtain ⟨s, pw, many, how, want, rs, rfl, _⟩ := h
    rfl
  · obtain ⟨s', pw, many, how, want, rs, rfl, ⟨us, hs1, hs2, hnd, h40, hall⟩, hW, hA, hnz, h8, hm, hT, q⟩ := h
    have tail : ∃ t : TS, PSs (cxOf CX0 P w K mg base nCo "counts_of" (defScope sCounts) f (.ref c) A outer s H E).nox ((defBody sCounts).drop 1) t ∧
        ∀ (H0 : Hp) (most : Int), Same H H0 → most = mostOf how many → t { nx := fun _ H' => Q .non H', rt := Q } [some (.ref s'), some (.int many), some (.ref pw), some (.str how), some (.int most)] H0 := by
      refine ⟨_, (pss_one (ps_ret (GW.pe_tupleF (k := k + 1) (GW.pgen_gx (k := k) (N := nGx) (fs := fsGx) (vs := [0, 1, 2]) (g := gTup K 3 (gCons (gName 0) (gCons (gName 1) (gCons (gName 2) gNil)))) (hr.mono (by omega)) TB rfl (gxv_of (sc := defScope sCounts) (by decide +kernel))
        (pi_list (pe_callB (SX.cr_sortDt hr.units) (by rfl) mSorted (by decide +kernel) (pa_cons (pv 0) pa_nil))) (fun σ i x v h1 h2 => ?_) (fun σ => rfl)
        (fun C code A s H fp pn hrr => pg_tup rfl (pgs_cons (pg_name (i := 0) nd_gx rfl (.inl rfl)) (pgs_cons (pg_name (i := 1) nd_gx rfl (.inl rfl)) (pgs_cons (pg_name (i := 2) nd_gx rfl (.inl rfl)) pgs_nil))))
        (fun C code A s H fp pn hrr => pe_tup (pa_cons (pv 0) (pa_cons (pe_callB (call_min2 rfl) (by rfl) X.min (by decide +kernel) (pa_cons (pv 4) (pa_cons (pe_call GM hrr (by rfl) mM kM bM .nil pass0 (pa_cons (pv 3) (pa_cons (pv 2) pa_nil))) pa_nil))) pa_nil)))
        (fun _ => rfl)) hr (by rfl) X.tup bt_tuple))), fun H0 most s0 em => ?_⟩
      · match i, h1, h2 with
        | 0, _, h2 => exact nomatch h2
        | 1, _, h2 => exact nomatch h2
        | 2, _, h2 => exact nomatch h2
        | 3, h1, h2 =>
          cases h1
          have h2 : (σ[2]?).join = some v := Option.some.inj h2
          exact ⟨rfl, 2, rfl, by cases e : σ[2]? with
            | none => rw [e] at h2; exact nomatch h2
            | some z => rw [e] at h2; exact congrArg some h2⟩
        | 4, h1, h2 =>
          cases h1
          have h2 : (σ[4]?).join = some v := Option.some.inj h2
          exact ⟨rfl, 4, rfl, by cases e : σ[4]? with
            | none => rw [e] at h2; exact nomatch h2
            | some z => rw [e] at h2; exact congrArg some h2⟩
        | n + 5, h1, h2 => exact nomatch h1
      obtain ⟨ps, ps1, ps2, ps3⟩ := houses_pairs hs2
      have hTt : TabG H0 T := TabG.same s0 hT
      have lps : ps.length = rs.length := by rw [← ps2, List.length_map]
      refine ⟨_, rfl, s', ps.map (fun p => (p.1, houseD p.2)), rfl, ?_, fun b hb => ?_, fun d hd d' hd' => ?_, .inl fun d hd => ?_, fun cs p hperm hpw np => ⟨p, rfl, ⟨_, SqL.of upd_same⟩, TabG.same (same_upd np) hTt, fun H2 htab => ?_⟩⟩
      · rw [List.map_map]
        have e : ps.map ((fun b : V × PyData => b.1) ∘ fun p : V × House => (p.1, houseD p.2)) = us := ps1
        rw [e]
        exact SqL.of (s0 _ _ hs1)
      · obtain ⟨p, hp, rfl⟩ := List.mem_map.mp hb
        exact ⟨((ps3 p hp).same s0).dp, house_depth _⟩
      · rw [List.map_map] at hd hd'
        obtain ⟨p, hp, rfl⟩ := List.mem_map.mp hd
        obtain ⟨p', hp', rfl⟩ := List.mem_map.mp hd'
        exact house_alike _ _
      · rw [List.map_map] at hd
        obtain ⟨p, hp, rfl⟩ := List.mem_map.mp hd
        exact ⟨_, _, rfl⟩
      obtain ⟨ws, wp, rfl⟩ := ST.perm_image hperm ps rfl
      have lws : ws.length = rs.length := by rw [wp.length_eq, lps]
      have k2 : Kp [T] H H2 := fun x o nx e => kp_of_tabbed htab x o nx (same_upd np _ _ (s0 _ _ e))
      have npT : p ≠ T := fun z => by
        obtain ⟨xs, e, _⟩ := hTt
        rw [z, e] at np
        cases np
      have free : ∀ {x : Addr}, H2 x = none → H x = none := fun {x} e => by
        cases e' : H x with
        | none => rfl
        | some o =>
          by_cases hx : x = T
          · obtain ⟨⟨xs, e2, _⟩, _⟩ := htab
            rw [hx, e2] at e
            cases e
          · have := k2 x o (fun z => hx (List.mem_singleton.mp z)) e'
            rw [e] at this
            cases this
      have e2p : H2 p = some (.lst ((ws.map fun q => (q.1, houseD q.2)).map (·.1))) := by
        rw [htab.2 p npT]
        exact upd_same
      have tabw : pw ∉ [T] := fun z => by
        obtain ⟨xs, e, _⟩ := hT
        rw [List.mem_singleton.mp z, e] at hW
        cases hW
      refine gx_list (xs := (ws.map fun q => (q.1, houseD q.2)).map (·.1)) (fun i ys H' => Same H2 H' ∧ PairVs H' ys (rowsC most want ((ws.take i).map (·.2)))) ⟨fun _ _ e => e, .nil⟩ (by rw [List.length_map, List.length_map]; exact Nat.le_of_lt (small1000 (by omega))) (fun i ys H' hi p' => ⟨SqL.of (p'.1 _ _ e2p), ?_⟩) (fun i x ys H' Kk hk hx p' => ?_) (fun ys H' p' p2 o2 np2 oc od => ?_)
      · rw [p'.2.len]
        unfold rowsC
        rw [List.length_map, List.length_map, List.length_take]
        rw [List.length_map, List.length_map] at hi
        omega
      · obtain ⟨p1, p2'⟩ := p'
        rw [List.map_map, List.getElem?_map] at hx
        cases hw : ws[i]? with
        | none => rw [hw] at hx; cases hx
        | some wv =>
          rw [hw] at hx
          have hx : wv.1 = x := Option.some.inj hx
          have hmem : wv ∈ ps := wp.mem_iff.mp (List.mem_of_getElem? hw)
          have hmr : wv.2 ∈ rs := by rw [← ps2]; exact List.mem_map.mpr ⟨wv, hmem, rfl⟩
          obtain ⟨al, ll, _, _⟩ := hall _ hmr
          have ha : HouseAt H' x wv.2 := by rw [← hx]; exact ((ps3 wv hmem).kpT hT k2).same p1
          obtain ⟨t, l, rfl, h1, h2⟩ := ha
          refine ⟨t, [.str wv.2.name, .str wv.2.yard, .ref l], rfl, SqT.of h1, rfl, .str wv.2.name, [.str wv.2.yard, .ref l], rfl, .str wv.2.yard, [.ref l], rfl, .ref l, [], rfl, rfl, rfl, ?_⟩
          have hne : quots want wv.2.left ≠ [] := quots_ne _ _ ll.symm (by
            obtain ⟨n, hn, nz⟩ := hnz
            exact ⟨n, hn, by have := (hA n hn).1; omega⟩)
          refine ⟨_, rfl, _, rfl, _, rfl, _, rfl, pw, l, want, wv.2.left, rfl, SqT.of (p1 _ _ (k2 _ _ tabw hW)), SqT.of h2, ll.symm, by omega, hA, hne, fun m H4 s4 m1 m2 => ?_⟩
          have em2 := least_is m1 m2
          subst em2
          refine ⟨most, _, rfl, by show 2 ≤ sizeLine; decide, fun t2 nt2 => hk _ _ ⟨(p1.trans s4).trans (same_upd nt2), ?_⟩⟩
          rw [List.take_add_one, hw]
          have := (p2'.same (s4.trans (same_upd (o := .tup [.str wv.2.name, .int (cnt most want wv.2.left)]) nt2))).snoc (t := t2) (z := wv.2.name) (n := cnt most want wv.2.left) upd_same
          unfold rowsC at this ⊢
          rw [List.map_append, List.map_append]
          exact this
      · obtain ⟨p1, p2'⟩ := p'
        rw [List.length_map, List.length_map, List.take_of_length_le (Nat.le_refl _)] at p2'
        have np3 : H2 p2 = none := p1.free np2
        refine q p2 (ws.map (·.2)) _ ?_ (sorted_names hpw) (TabG.same (p1.trans (same_upd np2)) htab.1) (fun x o nx e => same_upd np2 _ _ (p1 _ _ (k2 x o nx e))) (free np3) ⟨ys, ⟨o2, upd_same, oc, od⟩, ?_⟩
        · rw [← ps2]
          exact wp.map _
        · rw [← em]
          exact p2'.same (same_upd np2)
    obtain ⟨t, ht, hq⟩ := tail
    refine ⟨_, pss_cons (ps_set (i := 4) scCounts.nd rfl (.inr rfl) (pe_ifExp (pt_cmpR op_in_seq (pv 3) (pe_tup (pa_cons (pe_glob (v := .str "apart") (by rfl) mA ⟨_, rfl⟩) (pa_cons (pe_glob (v := .str "wide") (by rfl) mW ⟨_, rfl⟩) pa_nil))) (by rfl)) (pe_callB (call_min2 rfl) (by rfl) X.min (by decide +kernel) (pa_cons (pv 1) (pa_cons pe_int pa_nil))) (pv 1))) ht, ?_⟩
    refine ⟨_, rfl, by show 2 ≤ sizeLine; decide, fun p np => ⟨p, _, rfl, .inr (SqT.of upd_same), rfl, rfl, _, rfl, ite2 (fun e => ?_) (fun e => ?_)⟩⟩
    · refine ⟨_, rfl, many, 1, rfl, hq _ _ (same_upd np) ?_⟩
      have e' := (in_two _).mp e
      unfold mostOf
      rw [if_pos e']
      omega
    · refine ⟨_, rfl, hq _ _ (same_upd np) ?_⟩
      have e' : ¬ (how = "apart" ∨ how = "wide") := fun z => e ((in_two _).mpr z)
      unfold mostOf
      rw [if_neg e']
end
end My

set_option maxHeartbeats 1000000
/-! zip of any two iterators of which each gives its next one by its own rule; zip(list, tuple). -/
namespace ZM
open PySem
section
variable {prog : Program} {w : World}
/-- asked for its next one while P stands, the iterator at `it` gives x, alters itself only, and then R stands -/
def Gives (prog : Program) (w : World) (it : Addr) (x : Value) (P R : Heap → Prop) : Prop :=
  ∀ (A : Around) (Q : Value → Shared → Prop) (E : Value → Shared → Prop) (s : Shared), P s.heap → (∀ h', R h' → Heap.SameBut it s.heap h' → Q x { s with heap := h' }) → wpAny (model prog w) A (Builtin.SmallTypes.nextOf (.ref it)) Q E s
/-- asked for its next one while P stands, it has none -/
def Ends (prog : Program) (w : World) (it : Addr) (P : Heap → Prop) : Prop :=
  ∀ (A : Around) (Q : Value → Shared → Prop) (E : Value → Shared → Prop) (s : Shared), A.handled = none → P s.heap → (∀ h' e, Heap.ExtBut it s.heap h' → (∃ o, h'.get? e = some o ∧ o.cls = .type "StopIteration") → E (.ref e) { s with heap := h' }) →
    wpAny (model prog w) A (Builtin.SmallTypes.nextOf (.ref it)) Q E s
/-- P speaks of nothing at c -/
def Off (P : Heap → Prop) (c : Addr) : Prop := ∀ h h', Heap.ExtBut c h h' → P h → P h'
variable {A : Around} {E : Value → Shared → Prop} {s : Shared} {z TI TO i1 i2 : Addr} {x y a b : Value} {P1 R1 P2 R2 : Heap → Prop}

theorem run_item {Q : Value → Shared → Prop} (zTO : TO ≠ z) (z1 : i1 ≠ z) (z2 : i2 ≠ z) (o1 : TO ≠ i1) (o2 : TO ≠ i2) (i12 : i1 ≠ i2)
    (n1 : Gives prog w i1 x P1 R1) (n2 : Gives prog w i2 y P2 R2) (p1z : Off P1 z) (p2z : Off P2 z) (p2o : Off P2 TO) (p2i : Off P2 i1)
    (hz : IsZip s.heap z TI TO .none) (hTI : IsPair s.heap TI (.ref i1) (.ref i2)) (hTO : IsPair s.heap TO a b) (h1 : P1 s.heap) (h2 : P2 s.heap)
    (hQ : ∀ h' h1 h2, IsZip h' z TI TO (rawInt s.heap.objs.size) → IsPair h' TO x y → R1 h1 → (∀ o, h1.get? i1 = some o → h'.get? i1 = some o) → R2 h2 → (∀ o, h2.get? i2 = some o → h'.get? i2 = some o) → IsPair h' s.heap.objs.size x y →
      (∀ c o, c ≠ z → c ≠ TO → c ≠ i1 → c ≠ i2 → s.heap.get? c = some o → h'.get? c = some o) → Q (.ref s.heap.objs.size) { s with heap := h' }) :
    wpAny (model prog w) A (Builtin.«zip.__next__» ⟨[.ref z], []⟩) (fun fin s' => ∃ v, fin = .done (.ret v) ∧ Q v s') E s := by
  show wpAny _ _ (field (.ref z) 2 >>= _) _ _ _
  refine wpAny_bind (wpAny_field hz rfl (x := .bool false) rfl ?_)
  show wpAny _ _ (field (.ref z) 3 >>= _) _ _ _
  refine wpAny_bind (wpAny_field hz rfl (x := .ref TI) rfl (wpAny_bind (wpAny_seqItems hTI rfl ?_)))
  show wpAny _ _ (Builtin.SmallTypes.ownedTupleIsFree (.ref z) >>= _) _ _ _
  refine wpAny_bind ?_
  unfold Builtin.SmallTypes.ownedTupleIsFree
  refine wpAny_bind (wpAny_field hz rfl (x := .none) rfl (wpAny_pure ?_))
  simp only [if_true]
  refine wpAny_bind (wpAny_rule (wpAny_bind (wpAny_field hz rfl (x := .ref TO) rfl (wpAny_bind (wpAny_setField_rec hz (by simp) fun ha za sa => wpAny_bind ?_)))))
  replace za : IsZip ha z TI TO .ellipsis := za
  have xa := sa.extBut
  simp only [List.zipIdx_cons, List.zipIdx_nil, List.forIn_cons, List.forIn_nil]
  refine wpAny_bind (wpAny_bind (wpAny_onRaise ?_))
  show wpAny _ _ (Builtin.SmallTypes.nextOf (.ref i1) >>= _) _ _ _
  refine wpAny_bind (n1 _ _ _ _ (p1z _ _ xa h1) fun hb rb sb => wpAny_pure ?_)
  have xb := sb.extBut
  have tb : IsPair hb TO a b := xb _ _ o1 (xa _ _ zTO hTO)
  refine wpAny_bind (wpAny_seqItems tb rfl (wpAny_bind (wpAny_updateSeq_pair tb fun hc tc sc => wpAny_bind (wpAny_letGo (wpAny_pure ?_)))))
  replace tc : IsPair hc TO x b := tc
  have xc := sc.extBut
  refine wpAny_bind (wpAny_bind (wpAny_onRaise ?_))
  show wpAny _ _ (Builtin.SmallTypes.nextOf (.ref i2) >>= _) _ _ _
  refine wpAny_bind (n2 _ _ _ _ (p2o _ _ xc (p2i _ _ xb (p2z _ _ xa h2))) fun hd rd sd => wpAny_pure ?_)
  have xd := sd.extBut
  have td : IsPair hd TO x b := xd _ _ o2 tc
  refine wpAny_bind (wpAny_seqItems td rfl (wpAny_bind (wpAny_updateSeq_pair td fun he te se => wpAny_bind (wpAny_letGo (wpAny_pure (wpAny_pure ?_))))))
  replace te : IsPair he TO x y := te
  have xe := se.extBut
  have size : he.objs.size = s.heap.objs.size := by rw [se.1, sd.1, sc.1, sb.1, sa.1]
  have ze : IsZip he z TI TO .ellipsis := xe _ _ zTO.symm (xd _ _ z2.symm (xc _ _ zTO.symm (xb _ _ z1.symm za)))
  have zlt : z < he.objs.size := Heap.lt_size ze
  refine wpAny_bind (wpAny_seqItems te rfl (wpAny_bind (wpAny_newTuple ?_)))
  show wpAny _ _ (Builtin.SmallTypes.ownedTupleHandOut (.ref z) (.ref he.objs.size) >>= _) _ _ _
  refine wpAny_bind ?_
  unfold Builtin.SmallTypes.ownedTupleHandOut
  have zf : IsZip (he.push { cls := .type "tuple", data := .seq #[x, y] }) z TI TO .ellipsis := Heap.get?_push_of_some _ ze
  refine wpAny_bind (wpAny_setField_rec zf (by simp) fun hg zg sg => ?_)
  replace zg : IsZip hg z TI TO (rawInt he.objs.size) := zg
  refine wpAny_setField_rec zg (by simp) fun hl zl sl => ?_
  replace zl : IsZip hl z TI TO (rawInt he.objs.size) := zl
  have up : ∀ c o, c ≠ z → (he.push { cls := .type "tuple", data := .seq #[x, y] }).get? c = some o → hl.get? c = some o := fun c o n e => sl.extBut _ _ n (sg.extBut _ _ n e)
  have pair : IsPair hl he.objs.size x y := up _ _ (Nat.ne_of_gt zlt) (Heap.get?_push_size _ rfl)
  have up2 : ∀ c o, c ≠ z → he.get? c = some o → hl.get? c = some o := fun c o n e => up c o n (Heap.get?_push_of_some _ e)
  refine wpAny_pure ⟨_, rfl, ?_⟩
  show Q (.ref he.objs.size) _
  rw [size] at zl pair ⊢
  exact hQ hl hb hd zl (up2 _ _ zTO te) rb (fun o e => up2 _ o z1 (xe _ _ o1.symm (xd _ _ i12 (xc _ _ o1.symm e)))) rd (fun o e => up2 _ o z2 (xe _ _ o2.symm e)) pair
    fun c o c1 c2 c3 c4 e => up2 c o c1 (xe _ _ c2 (xd _ _ c4 (xc _ _ c2 (xb _ _ c3 (xa _ _ c1 e)))))

theorem run_end {Q : Fin → Shared → Prop} (hh : A.handled = none) (z1 : i1 ≠ z) (n1 : Ends prog w i1 P1) (p1z : Off P1 z)
    (hz : IsZip s.heap z TI TO .none) (hTI : IsPair s.heap TI (.ref i1) (.ref i2)) (h1 : P1 s.heap)
    (hE : ∀ h' e, (∀ c o, c ≠ z → c ≠ i1 → s.heap.get? c = some o → h'.get? c = some o) → (∃ o, h'.get? e = some o ∧ o.cls = .type "StopIteration") → E (.ref e) { s with heap := h' }) :
    wpAny (model prog w) A (Builtin.«zip.__next__» ⟨[.ref z], []⟩) Q E s := by
  show wpAny _ _ (field (.ref z) 2 >>= _) _ _ _
  refine wpAny_bind (wpAny_field hz rfl (x := .bool false) rfl ?_)
  show wpAny _ _ (field (.ref z) 3 >>= _) _ _ _
  refine wpAny_bind (wpAny_field hz rfl (x := .ref TI) rfl (wpAny_bind (wpAny_seqItems hTI rfl ?_)))
  show wpAny _ _ (Builtin.SmallTypes.ownedTupleIsFree (.ref z) >>= _) _ _ _
  refine wpAny_bind ?_
  unfold Builtin.SmallTypes.ownedTupleIsFree
  refine wpAny_bind (wpAny_field hz rfl (x := .none) rfl (wpAny_pure ?_))
  simp only [if_true]
  refine wpAny_bind (wpAny_rule (wpAny_bind (wpAny_field hz rfl (x := .ref TO) rfl (wpAny_bind (wpAny_setField_rec hz (by simp) fun ha za sa => wpAny_bind ?_)))))
  replace za : IsZip ha z TI TO .ellipsis := za
  have xa := sa.extBut
  simp only [List.zipIdx_cons, List.zipIdx_nil, List.forIn_cons, List.forIn_nil]
  refine wpAny_bind (wpAny_bind (wpAny_onRaise ?_))
  show wpAny _ _ (Builtin.SmallTypes.nextOf (.ref i1) >>= _) _ _ _
  refine wpAny_bind (n1 _ _ _ _ hh (p1z _ _ xa h1) fun hb e xb he => ?_)
  obtain ⟨oe, hoe, hce⟩ := he
  have zb : IsZip hb z TI TO .ellipsis := xb _ _ z1.symm za
  have ez : e ≠ z := fun q => by
    subst q
    rw [zb] at hoe
    cases hoe
    simp at hce
  exact wpAny_setField_rec zb (by simp) fun hc _ sc => hE hc e (fun c o c1 c2 q => sc.extBut _ _ c1 (xb _ _ c2 (xa _ _ c1 q))) ⟨oe, sc.extBut _ _ ez hoe, hce⟩

theorem next_item {Q : Option Value → Shared → Prop} (zTO : TO ≠ z) (z1 : i1 ≠ z) (z2 : i2 ≠ z) (o1 : TO ≠ i1) (o2 : TO ≠ i2) (i12 : i1 ≠ i2)
    (n1 : Gives prog w i1 x P1 R1) (n2 : Gives prog w i2 y P2 R2) (p1z : Off P1 z) (p2z : Off P2 z) (p2o : Off P2 TO) (p2i : Off P2 i1)
    (hz : IsZip s.heap z TI TO .none) (hTI : IsPair s.heap TI (.ref i1) (.ref i2)) (hTO : IsPair s.heap TO a b) (h1 : P1 s.heap) (h2 : P2 s.heap)
    (hQ : ∀ h' h1 h2, IsZip h' z TI TO (rawInt s.heap.objs.size) → IsPair h' TO x y → R1 h1 → (∀ o, h1.get? i1 = some o → h'.get? i1 = some o) → R2 h2 → (∀ o, h2.get? i2 = some o → h'.get? i2 = some o) → IsPair h' s.heap.objs.size x y →
      (∀ c o, c ≠ z → c ≠ TO → c ≠ i1 → c ≠ i2 → s.heap.get? c = some o → h'.get? c = some o) → Q (some (.ref s.heap.objs.size)) { s with heap := h' }) :
    wpAny (model prog w) A (pyNext (.ref z)) Q E s := by
  have hT : s.TypeIs (.ref z) "zip" := ⟨_, hz, rfl⟩
  unfold pyNext
  exact wpAny_bind (wpAny_attempt (wpAny_callSpecial?_slot (name := Str.ofString "__next__") hT F.slot_zip_next (wpAny_call_entry F.slot_zip_next hT F.entry_zip_next
    (run_item zTO z1 z2 o1 o2 i12 n1 n2 p1z p2z p2o p2i hz hTI hTO h1 h2 fun h' g1 g2 q1 q2 q3 q4 q5 q6 q7 q8 => wpAny_pure (hQ h' g1 g2 q1 q2 q3 q4 q5 q6 q7 q8)) (F.args_zip_next_1 _))))
theorem next_end {Q : Option Value → Shared → Prop} (hh : A.handled = none) (z1 : i1 ≠ z) (n1 : Ends prog w i1 P1) (p1z : Off P1 z)
    (hz : IsZip s.heap z TI TO .none) (hTI : IsPair s.heap TI (.ref i1) (.ref i2)) (h1 : P1 s.heap)
    (hQ : ∀ h', (∀ c o, c ≠ z → c ≠ i1 → s.heap.get? c = some o → h'.get? c = some o) → Q none { s with heap := h' }) : wpAny (model prog w) A (pyNext (.ref z)) Q E s := by
  have hT : s.TypeIs (.ref z) "zip" := ⟨_, hz, rfl⟩
  unfold pyNext
  refine wpAny_bind (wpAny_attempt (wpAny_callSpecial?_slot (name := Str.ofString "__next__") hT F.slot_zip_next (wpAny_call_entry F.slot_zip_next hT F.entry_zip_next
    (run_end hh z1 n1 p1z hz hTI h1 fun h' e hk he => ?_) (F.args_zip_next_1 _))))
  obtain ⟨o, ho, hc⟩ := he
  exact wpAny_bind (wpAny_isInstance (T := "StopIteration") (b := true) ⟨o, ho, hc⟩ isSubtype_stop (wpAny_pure (hQ _ hk)))
end

/-! ### zip(list, tuple): the call -/
/-- an iterator's first stand -/
abbrev itr (T : String) (l : Addr) : Obj := { cls := .type T, data := .fields #[.ref l, .int 0 0] }
abbrev tup2 (a b : Value) : Obj := { cls := .type "tuple", data := .seq #[a, b] }
abbrev two (h : Heap) (p q : Obj) : Heap := (h.push p).push q
abbrev three (h : Heap) (p q : Obj) : Heap := (two h p q).push (tup2 (.ref h.objs.size) (.ref (h.push p).objs.size))
abbrev four (h : Heap) (p q : Obj) : Heap := (three h p q).push (tup2 .none .none)
abbrev five (h : Heap) (p q : Obj) : Heap := (four h p q).push { cls := .type "zip", data := .fields #[.none, .bool false, .bool false, .ref (two h p q).objs.size, .ref (three h p q).objs.size] }
theorem meets_new (l1 l2 : Addr) (xs ys : Array Value) : Meets (Builtin.«zip.__new__» ⟨[.type "zip", .ref l1, .ref l2], []⟩) (fun _ R s => s.heap.IsList l1 xs ∧ s.heap.IsTuple l2 ys ∧
    R (.ok (.ret (.ref (four s.heap (itr "list_iterator" l1) (itr "tuple_iterator" l2)).objs.size))) { s with heap := five s.heap (itr "list_iterator" l1) (itr "tuple_iterator" l2) }) :=
  .of_wp fun prog w A R s h => by
    obtain ⟨hp, g, d, tk, os⟩ := s
    obtain ⟨q1, q2, h⟩ := h
    have hsub := sub_zip
    have hL1 : Heap.IsList (Shared.heap ⟨hp, g, d, tk, os⟩) l1 xs := q1
    have hL2 : Heap.IsTuple (Shared.heap ⟨hp.push (itr "list_iterator" l1), g, d, tk, os⟩) l2 ys := Heap.IsTuple.push q2 _
    wp_walk using wpAny_pyIter_list hL1, wpAny_pyIter_tuple hL2
    exact ⟨_, rfl, h⟩
section
variable {prog : Program} {w : World} {A : Around} {E : Value → Shared → Prop} {s : Shared}
theorem call_mixed {l1 l2 : Addr} {xs ys : Array Value} {Q : Value → Shared → Prop} (q1 : s.heap.IsList l1 xs) (q2 : s.heap.IsTuple l2 ys)
    (h : ∀ h' n, n = s.heap.objs.size → IsZip h' (n + 4) (n + 2) (n + 3) .none → IsPair h' (n + 2) (.ref n) (.ref (n + 1)) → IsPair h' (n + 3) .none .none → h'.IsListIter n l1 0 → h'.IsTupleIter (n + 1) l2 0 →
      (∀ c o, s.heap.get? c = some o → h'.get? c = some o) → Q (.ref (n + 4)) { s with heap := h' }) : wpAny (model prog w) A (call (.type "zip") [.ref l1, .ref l2]) Q E s := by
  refine callType_new F.called_zip (by decide) (F.typeCall_zip_2 _ _) (F.newCall_zip_2 _ _) (fun obj => F.args_object_init_3 obj _ _) F.entry_zip_new (meets_new l1 l2 xs ys) ⟨q1, q2, ?_⟩
  generalize hp : itr "list_iterator" l1 = p
  generalize hq : itr "tuple_iterator" l2 = q
  have n1 : (s.heap.push p).objs.size = s.heap.objs.size + 1 := Heap.size_push ..
  have n2 : (two s.heap p q).objs.size = s.heap.objs.size + 2 := by rw [Heap.size_push, n1]
  have n3 : (three s.heap p q).objs.size = s.heap.objs.size + 3 := by rw [Heap.size_push, n2]
  have n4 : (four s.heap p q).objs.size = s.heap.objs.size + 4 := by rw [Heap.size_push, n3]
  have kp : ∀ {h : Heap} {o r : Obj} {c : Addr}, h.get? c = some o → (h.push r).get? c = some o := fun e => Heap.get?_push_of_some _ e
  have f1 : p.isFreed = false := by rw [← hp]; rfl
  have f2 : q.isFreed = false := by rw [← hq]; rfl
  have a1 : (five s.heap p q).get? s.heap.objs.size = some p := kp (kp (kp (kp (Heap.get?_push_size _ f1))))
  have a2 : (five s.heap p q).get? (s.heap.push p).objs.size = some q := kp (kp (kp (Heap.get?_push_size _ f2)))
  have a3 : (five s.heap p q).get? (two s.heap p q).objs.size = some _ := kp (kp (Heap.get?_push_size _ rfl))
  have a4 : (five s.heap p q).get? (three s.heap p q).objs.size = some _ := kp (Heap.get?_push_size _ rfl)
  have a5 : (five s.heap p q).get? (four s.heap p q).objs.size = some _ := Heap.get?_push_size _ rfl
  show _ ∧ _
  rw [n2, n3, n4] at a5
  rw [n1, n2] at a3
  rw [n3] at a4
  rw [n1] at a2
  rw [n4]
  subst hp hq
  exact ⟨⟨_, a5, rfl⟩, h _ _ rfl a5 a3 a4 ⟨_, a1, rfl, rfl⟩ ⟨_, a2, rfl, rfl⟩ fun c o e => kp (kp (kp (kp (kp e))))⟩
end
section
variable {prog : Program} {w : World}
theorem gives_list {it l : Addr} {k : Nat} {xs : Array Value} {x : Value} (hx : xs[k]? = some x) : Gives prog w it x (fun h => h.IsListIter it l k ∧ h.IsList l xs) (fun h => h.IsListIter it l (k + 1)) :=
  fun _ _ _ _ p h => wpAny_nextOf_list_item p.1 p.2 hx h
theorem gives_tup {it l : Addr} {k : Nat} {xs : Array Value} {x : Value} (hx : xs[k]? = some x) : Gives prog w it x (fun h => h.IsTupleIter it l k ∧ h.IsTuple l xs) (fun h => h.IsTupleIter it l (k + 1)) :=
  fun _ _ _ _ p h => RZ.nextOf_tuple_item p.1 p.2 hx h
theorem ends_list {it l : Addr} {k : Nat} {xs : Array Value} (hx : xs[k]? = none) : Ends prog w it (fun h => h.IsListIter it l k ∧ h.IsList l xs) :=
  fun _ _ _ _ hh p h => wpAny_nextOf_list_end hh p.1 p.2 hx h
theorem off_list {it l c : Addr} {k : Nat} {xs : Array Value} (h1 : it ≠ c) (h2 : l ≠ c) : Off (fun h => h.IsListIter it l k ∧ h.IsList l xs) c := fun _ _ e p => ⟨p.1.extBut e h1, p.2.extBut e h2⟩
theorem off_tup {it l c : Addr} {k : Nat} {xs : Array Value} (h1 : it ≠ c) (h2 : l ≠ c) : Off (fun h => h.IsTupleIter it l k ∧ h.IsTuple l xs) c := fun _ _ e p => ⟨p.1.extBut e h1, p.2.extBut e h2⟩
end
end ZM
namespace ZM
open PySem PySem.Spec PyProof.Rows L2
/-- the list at a and the tuple at b as they stand at each turn, the items in new pairs; stopped by the list -/
def ItM (K : PySem.W.Frag) (a b : Addr) : It :=
  ⟨fun i H => ∃ (xs ys : List V) (x y : V), SqL K H a xs ∧ SqT K H b ys ∧ xs[i]? = some x ∧ ys[i]? = some y,
    fun i H v H' => ∃ T x y, v = .ref T ∧ H T = none ∧ H' = upd H T (.tup [x, y]) ∧ (∀ xs, SqL K H a xs → xs[i]? = some x) ∧ ∀ ys, SqT K H b ys → ys[i]? = some y,
    fun i H => ∃ xs : List V, SqL K H a xs ∧ xs.length ≤ i⟩
theorem walk_mixed {K : PySem.W.Frag} {a b : Addr} {xs ys : List V} (hl : xs.length = ys.length) : Walk (ItM K a b) xs.length (fun H => SqL K H a xs ∧ SqT K H b ys) (YPair (fun i => xs[i]?) (fun i => ys[i]?)) :=
  ⟨fun i _ hi q => ⟨xs, ys, xs[i], ys[i]'(by omega), q.1, q.2, List.getElem?_eq_getElem hi, List.getElem?_eq_getElem (by omega)⟩, fun _ q => ⟨xs, q.1, Nat.le_refl _⟩, fun _ _ _ _ _ q y => by
    obtain ⟨T, x, y, e, n, e2, f1, f2⟩ := y
    exact ⟨T, x, y, e, n, e2, f1 _ q.1, f2 _ q.2⟩⟩
theorem turn_mixed {P : Program} {w : World} {K : PySem.W.Frag} {elts : List Expr} {kk : Nat} {tpos : Pos} {a b z TI TO i1 i2 : Addr} (D : ZipApart z TI TO i1 i2 a b) :
    Turn P w K (.Tuple elts kk tpos) (ItM K a b) [z, TI, TO, i1, i2] z (fun i h => IsZip h z TI TO .none ∧ IsPair h TI (.ref i1) (.ref i2) ∧ (∃ x y, IsPair h TO x y) ∧ h.IsListIter i1 a i ∧ h.IsTupleIter i2 b i) where
  mem := List.mem_cons_self
  obj := fun i h st c hc => by
    obtain ⟨hz, hTI, ⟨x, y, hTO⟩, ⟨o1, e1, _, d1⟩, ⟨o2, e2, _, d2⟩⟩ := st
    simp only [List.mem_cons, List.not_mem_nil, or_false] at hc
    rcases hc with rfl | rfl | rfl | rfl | rfl
    · exact ⟨_, hz, fun v q => nomatch q⟩
    · exact ⟨_, hTI, fun v q => nomatch q⟩
    · exact ⟨_, hTO, fun v q => nomatch q⟩
    · exact ⟨o1, e1, fun v q => by rw [d1] at q; cases q⟩
    · exact ⟨o2, e2, fun v q => by rw [d2] at q; cases q⟩
  keep := fun i h h' st k => by
    obtain ⟨hz, hTI, ⟨x, y, hTO⟩, h1, h2⟩ := st
    exact ⟨k z (by simp) _ hz, k TI (by simp) _ hTI, ⟨x, y, k TO (by simp) _ hTO⟩, h1.at fun o q => k i1 (by simp) o q, h2.at fun o q => k i2 (by simp) o q⟩
  item := by
    intro X hP hw hK hc i pins s σ H E I hf st hg
    subst hP hw hK
    obtain ⟨hz, hTI, ⟨x0, y0, hTO⟩, h1, h2⟩ := st
    obtain ⟨xs, ys, x, y, hqx, hqy, hx, hy⟩ := hg
    obtain ⟨us, ru, p1, _⟩ := I.list hqx
    obtain ⟨ws, rw', p2, _⟩ := I.tuple hqy
    obtain ⟨u, hu, r1⟩ := ru.get hx
    obtain ⟨u2, hu2, r2⟩ := rw'.get hy
    have zlt : z < s.heap.objs.size := Heap.lt_size hz
    have below : ∀ c ∈ [z, TI, TO, i1, i2], c < s.heap.objs.size := fun c hc => by
      simp only [List.mem_cons, List.not_mem_nil, or_false] at hc
      rcases hc with rfl | rfl | rfl | rfl | rfl
      · exact zlt
      · exact Heap.lt_size hTI
      · exact Heap.lt_size hTO
      · obtain ⟨_, e, _⟩ := h1; exact Heap.lt_size e
      · obtain ⟨_, e, _⟩ := h2; exact Heap.lt_size e
    refine next_item D.TOz D.i1z D.i2z D.TOi1 D.TOi2 D.i12 (gives_list (xs := us.toArray) (x := u) (by simpa using hu)) (gives_tup (xs := ws.toArray) (x := u2) (by simpa using hu2)) (off_list D.i1z D.l1z) (off_tup D.i2z D.l2z) (off_tup D.TOi2.symm D.l2TO) (off_tup D.i12.symm D.l2i1)
      hz hTI hTO ⟨h1, p1.isList⟩ ⟨h2, p2⟩ fun h' g1 g2 z' TO' q1 k1 q2 k2 hT hk => ⟨_, rfl, wpAny_letOwnedTupleGo_zip (s := { s with heap := h' }) z' fun h'' z'' sb => ?_⟩
    have up : ∀ c o, c ≠ z → h'.get? c = some o → h''.get? c = some o := fun c o n e => (sb.2 c n).trans e
    have new : ObjOk X.prog X.w (upd H s.heap.objs.size (.tup [x, y])) h'' s.heap.objs.size (.tup [x, y]) :=
      ⟨by show 2 ≤ sizeLine; decide, [u, u2], .cons r1 (.cons r2 .nil), ⟨_, up _ _ (Nat.ne_of_gt zlt) hT, rfl, _, rfl⟩⟩
    have I1 : Inv X pins σ (upd H s.heap.objs.size (.tup [x, y])) { s with heap := h'' } :=
      I.turnedNew (t' := s.toks) (ch := [z, TI, TO, i1, i2]) (fun c o hb q => by
        simp only [List.mem_cons, List.not_mem_nil, or_false, not_or] at hb
        exact up c o hb.1 (hk c o hb.1 hb.2.2.1 hb.2.2.2.1 hb.2.2.2.2 q)) hf (Nat.le_refl _) new
    refine ⟨.ref s.heap.objs.size, _, I1, rfl, ⟨_, x, y, rfl, I.hok.fresh (Nat.le_refl _), rfl, fun l hl => by rw [I.list_inj hl hqx]; exact hx, fun l hl => by rw [I.tuple_inj hl hqy]; exact hy⟩,
      ⟨z'', up _ _ D.TIz (hk _ _ D.TIz D.TITO D.TIi1 D.TIi2 hTI), ⟨u, u2, up _ _ D.TOz TO'⟩, q1.at fun o e => up _ o D.i1z (k1 o e), q2.at fun o e => up _ o D.i2z (k2 o e)⟩, fun c hcm => ?_⟩
    rw [upd_ne (Nat.ne_of_lt (below c hcm))]
    exact (hf c hcm).1
  done := by
    intro X hP hw hK hc i pins s σ H E I hf st hg
    subst hP hw hK
    obtain ⟨hz, hTI, hTO, h1, h2⟩ := st
    obtain ⟨xs, hqx, hend⟩ := hg
    obtain ⟨us, ru, p1, _⟩ := I.list hqx
    have l1 := ru.length
    exact next_end (I.ok.hd hc) D.i1z (ends_list (xs := us.toArray) (by simp; omega)) (off_list D.i1z D.l1z) hz hTI ⟨h1, p1.isList⟩ fun h' hk => ⟨rfl, I.turnedL (t' := s.toks) (ch := [z, TI, TO, i1, i2]) (fun c o hb q => by
      simp only [List.mem_cons, List.not_mem_nil, or_false, not_or] at hb
      exact hk c o hb.1 hb.2.2.2.1 q) hf⟩
  self := fun A i s Q E st h => wpAny_pyIter_zip st.1 h
def iMix (K : PySem.W.Frag) (ta : TA) : TI := fun σ H R => ta σ H fun vs H1 => ∃ a b xs ys, vs = [.ref a, .ref b] ∧ SqL K H1 a xs ∧ SqT K H1 b ys ∧ R (ItM K a b) H1
theorem pi_mix {X : Cx} {e e2 : Expr} {ta : TA} {p pos tpos : Pos} {elts : List Expr} {kk : Nat} (hg : Gl X "zip") (hm : X.mg "zip" = none) (ha : PA X [e, e2] ta)
    (hs : starEach [e, e2] X.env = (false, eval e X.env) :: starEach [e2] X.env := by rfl) (hpl : (backTo pos (starEach [e2] X.env)).any (·.1) = false := by rfl) :
    PI X (.Tuple elts kk tpos) (.Call (.Name "zip" p) [e, e2] [] pos) (iMix X.K ta) := by
  refine ⟨fun pins s σ H R I h => ?_⟩
  refine Call_ (ld_blt I hg hm PyProof.Rows.boot_zip (PyProof.Rows.callWith_type1 (thn (ha.run pos pins s σ H _ I h) fun us s1 ⟨vs, H1, I1, r1, q1⟩ => ?_) hs hpl))
  obtain ⟨a, b, xs, ys, ex, hqx, hqy, q⟩ := q1
  subst ex
  cases r1 with
  | cons r rr =>
    cases rr with
    | cons r' rr =>
      cases rr
      cases r
      cases r'
      obtain ⟨us, ru, p1, _⟩ := I1.list hqx
      obtain ⟨ws, rw', p2, _⟩ := I1.tuple hqy
      obtain ⟨o2, ho2, _⟩ := id p2
      refine call_mixed p1.isList (show s1.heap.IsTuple b ws.toArray from p2) fun h' n en hz hTI hTO h1 h2 hk => wpAny_pyIter_zip hz ?_
      have I2 : Inv X pins σ H1 { s1 with heap := h' } := I1.kept (t' := s1.toks) hk
      subst en
      refine ⟨s1.heap.objs.size + 4, [s1.heap.objs.size + 4, s1.heap.objs.size + 2, s1.heap.objs.size + 3, s1.heap.objs.size, s1.heap.objs.size + 1], _, _, H1, rfl, I2, turn_mixed (PySem.W.ktu_apart s1.heap.objs.size a b p1.lt (Heap.lt_size ho2)), ⟨hz, hTI, ⟨_, _, hTO⟩, h1, h2⟩, fun c hc => ?_, q⟩
      have le : s1.heap.objs.size ≤ c := by
        simp only [List.mem_cons, List.not_mem_nil, or_false] at hc
        rcases hc with h | h | h | h | h <;> rw [h]
        · exact Nat.le_add_right _ _
        · exact Nat.le_add_right _ _
        · exact Nat.le_add_right _ _
        · exact Nat.le_refl _
        · exact Nat.le_add_right _ _
      exact I1.fpOk le (I1.hok.fresh le)
end ZM

set_option maxHeartbeats 2000000
/-! list(zip(tuple, tuple)): a list of new pairs -/
namespace ZM
open PySem PySem.W
section
variable {prog : Program} {w : World} {A : Around} {E : Value → Shared → Prop} {s : Shared} {z TI TO T i1 i2 : Addr} {x y : Value} {P1 R1 P2 R2 : Heap → Prop} {f : Bool} {oT : Obj}
theorem held_item {Q : Option Value → Shared → Prop} (z1 : i1 ≠ z) (z2 : i2 ≠ z) (i12 : i1 ≠ i2)
    (n1 : Gives prog w i1 x P1 R1) (n2 : Gives prog w i2 y P2 R2) (p1z : Off P1 z) (p2z : Off P2 z) (p2i : Off P2 i1)
    (hz : IsZipHeld s.heap z TI TO T f) (hT : s.heap.get? T = some oT) (hTI : IsPair s.heap TI (.ref i1) (.ref i2)) (h1 : P1 s.heap) (h2 : P2 s.heap)
    (hQ : ∀ h' h1 h2, IsZipHeld h' z TI TO T true → R1 h1 → (∀ o, h1.get? i1 = some o → h'.get? i1 = some o) → R2 h2 → (∀ o, h2.get? i2 = some o → h'.get? i2 = some o) → IsPair h' s.heap.objs.size x y →
      (∀ c o, c ≠ z → c ≠ i1 → c ≠ i2 → s.heap.get? c = some o → h'.get? c = some o) → Q (some (.ref s.heap.objs.size)) { s with heap := h' }) :
    wpAny (model prog w) A (pyNext (.ref z)) Q E s := by
  have hTy : s.TypeIs (.ref z) "zip" := ⟨_, hz, rfl⟩
  unfold pyNext
  refine wpAny_bind (wpAny_attempt (wpAny_callSpecial?_slot (name := Str.ofString "__next__") hTy F.slot_zip_next (wpAny_call_entry F.slot_zip_next hTy F.entry_zip_next ?_ (F.args_zip_next_1 _))))
  show wpAny _ _ (field (.ref z) 2 >>= _) _ _ _
  refine wpAny_bind (wpAny_field hz rfl (x := .bool false) rfl ?_)
  show wpAny _ _ (field (.ref z) 3 >>= _) _ _ _
  refine wpAny_bind (wpAny_field hz rfl (x := .ref TI) rfl ?_)
  refine wpAny_bind (wpAny_seqItems hTI rfl ?_)
  show wpAny _ _ (Builtin.SmallTypes.ownedTupleIsFree (.ref z) >>= _) _ _ _
  refine wpAny_bind (wpAny_tupleHeld_zip hz hT fun ha za sa => ?_)
  simp only [Bool.false_eq_true, if_false]
  refine wpAny_bind ?_
  rw [← Array.forIn_toList]
  simp only [List.forIn_cons, List.forIn_nil]
  refine wpAny_bind (wpAny_bind (wpAny_holding ?_))
  show wpAny _ _ (Builtin.SmallTypes.nextOf (.ref i1) >>= _) _ _ _
  refine wpAny_bind (n1 _ _ _ { s with heap := ha } (p1z _ _ sa.extBut h1) fun hb rb sb => wpAny_pure ?_)
  refine wpAny_pure ?_
  refine wpAny_bind (wpAny_bind (wpAny_holding ?_))
  show wpAny _ _ (Builtin.SmallTypes.nextOf (.ref i2) >>= _) _ _ _
  refine wpAny_bind (n2 _ _ _ { s with heap := hb } (p2i _ _ sb.extBut (p2z _ _ sa.extBut h2)) fun hc rc sc => wpAny_pure ?_)
  refine wpAny_pure (wpAny_pure ?_)
  show wpAny _ _ (newTuple [x, y] >>= _) _ _ _
  refine wpAny_bind (wpAny_newTuple ?_)
  have hsz : hc.objs.size = s.heap.objs.size := by rw [sc.1, sb.1, sa.1]
  have zc : IsZipHeld hc z TI TO T true := sc.extBut _ _ z2.symm (sb.extBut _ _ z1.symm za)
  have hk : ∀ c o, c ≠ z → c ≠ i1 → c ≠ i2 → s.heap.get? c = some o → hc.get? c = some o := fun c o c1 c2 c3 e => sc.extBut _ _ c3 (sb.extBut _ _ c2 (sa.extBut _ _ c1 e))
  refine wpAny_pure ⟨_, rfl, wpAny_pure ?_⟩
  show Q (some (.ref hc.objs.size)) _
  have hp : IsPair (hc.push { cls := .type "tuple", data := .seq #[x, y] }) hc.objs.size x y := Heap.get?_push_size _ rfl
  rw [hsz] at hp ⊢
  exact hQ _ hb hc (Heap.get?_push_of_some _ zc) rb (fun o e => Heap.get?_push_of_some _ (sc.extBut _ _ i12 e)) rc (fun o e => Heap.get?_push_of_some _ e) hp fun c o c1 c2 c3 e => Heap.get?_push_of_some _ (hk c o c1 c2 c3 e)
theorem held_end {Q : Option Value → Shared → Prop} (hh : A.handled = none) (n1 : Ends prog w i1 P1) (p1z : Off P1 z)
    (hz : IsZipHeld s.heap z TI TO T f) (hT : s.heap.get? T = some oT) (hTI : IsPair s.heap TI (.ref i1) (.ref i2)) (h1 : P1 s.heap)
    (hQ : ∀ h', (∀ c o, c ≠ z → c ≠ i1 → s.heap.get? c = some o → h'.get? c = some o) → Q none { s with heap := h' }) : wpAny (model prog w) A (pyNext (.ref z)) Q E s := by
  have hTy : s.TypeIs (.ref z) "zip" := ⟨_, hz, rfl⟩
  unfold pyNext
  refine wpAny_bind (wpAny_attempt (wpAny_callSpecial?_slot (name := Str.ofString "__next__") hTy F.slot_zip_next (wpAny_call_entry F.slot_zip_next hTy F.entry_zip_next ?_ (F.args_zip_next_1 _))))
  show wpAny _ _ (field (.ref z) 2 >>= _) _ _ _
  refine wpAny_bind (wpAny_field hz rfl (x := .bool false) rfl ?_)
  show wpAny _ _ (field (.ref z) 3 >>= _) _ _ _
  refine wpAny_bind (wpAny_field hz rfl (x := .ref TI) rfl ?_)
  refine wpAny_bind (wpAny_seqItems hTI rfl ?_)
  show wpAny _ _ (Builtin.SmallTypes.ownedTupleIsFree (.ref z) >>= _) _ _ _
  refine wpAny_bind (wpAny_tupleHeld_zip hz hT fun ha za sa => ?_)
  simp only [Bool.false_eq_true, if_false]
  refine wpAny_bind ?_
  rw [← Array.forIn_toList]
  simp only [List.forIn_cons, List.forIn_nil]
  refine wpAny_bind (wpAny_bind (wpAny_holding ?_))
  show wpAny _ _ (Builtin.SmallTypes.nextOf (.ref i1) >>= _) _ _ _
  refine wpAny_bind (n1 _ _ _ { s with heap := ha } hh (p1z _ _ sa.extBut h1) fun hb e sb he => ?_)
  obtain ⟨o, ho, hc⟩ := he
  refine wpAny_bind (wpAny_isInstance (T := "StopIteration") (b := true) ⟨o, ho, hc⟩ isSubtype_stop ?_)
  exact wpAny_pure (hQ _ fun c o c1 c2 e => sb _ _ c2 (sa.extBut _ _ c1 e))
theorem ends_tup {it l : Addr} {k : Nat} {xs : Array Value} (hx : xs[k]? = none) : Ends prog w it (fun h => h.IsTupleIter it l k ∧ h.IsTuple l xs) :=
  fun _ _ _ _ hh p h => RZ.nextOf_tuple_end hh p.1 p.2 hx h
theorem zip_no_len : typeLookup (.type "zip") "__len__" = pure none := am_miss_of_fast (by decide +kernel)
theorem zip_no_hint : typeLookup (.type "zip") "__length_hint__" = pure none := am_miss_of_fast (by decide +kernel)
end
end ZM
namespace ZM
open PySem PySem.Spec PyProof.Rows L2
/-- the values us are the pairs ps, in tuples of their own -/
def Prs (H : Hp) (us : List V) (ps : List (V × V)) : Prop := us.length = ps.length ∧ ∀ (j : Nat) (p : V × V), ps[j]? = some p → ∃ T, us[j]? = some (V.ref T) ∧ H T = some (.tup [p.1, p.2])
theorem Prs.mono {H H' : Hp} {us : List V} {ps : List (V × V)} (h : Prs H us ps) (k : ∀ p o, H p = some o → H' p = some o) : Prs H' us ps :=
  ⟨h.1, fun j p e => let ⟨T, e1, e2⟩ := h.2 j p e; ⟨T, e1, k _ _ e2⟩⟩
theorem Prs.snoc {H : Hp} {us : List V} {ps : List (V × V)} {T : Addr} {p : V × V} (h : Prs H us ps) (e : H T = some (.tup [p.1, p.2])) : Prs H (us ++ [V.ref T]) (ps ++ [p]) := by
  refine ⟨by rw [List.length_append, List.length_append, h.1]; rfl, fun j q hq => ?_⟩
  by_cases hj : j < ps.length
  · rw [List.getElem?_append_left hj] at hq
    obtain ⟨T', e1, e2⟩ := h.2 j q hq
    exact ⟨T', by rw [List.getElem?_append_left (by rw [h.1]; exact hj)]; exact e1, e2⟩
  · have hj2 : j = ps.length := by
      have := (List.getElem?_eq_some_iff.mp hq).1
      rw [List.length_append, List.length_singleton] at this
      omega
    subst hj2
    rw [List.getElem?_append_right (Nat.le_refl _), Nat.sub_self] at hq
    cases hq
    exact ⟨T, by rw [← h.1, List.getElem?_append_right (Nat.le_refl _), Nat.sub_self]; rfl, e⟩
section
variable {X : Cx} {pins : List (Addr × Obj)} {σ : L2.St}
/-- a list that stands there is known from now on -/
theorem track {H : Hp} {s : Shared} {S : Addr} {acc : Array Value} {c : Nat} {out : List V} (I : Inv X pins σ H s) (hf : FpOk X pins H S) (hlen : out.length ≤ sizeLine) (e : s.heap.get? S = some (lstObj acc c)) (r : Vals out acc.toList) : Inv X pins σ (upd H S (.lst out)) s := by
  obtain ⟨hn, f1, f2, f3, f4, f5⟩ := hf
  refine I.call' (ch := [S]) rfl ⟨fun b ob q _ _ _ => q, fun b ob q _ _ _ => ⟨ob.slots, q⟩, fun b ob q n hx => ?_, fun b ob q _ => ⟨ob, q⟩, fun b xs q => ?_, fun b ob y q => ?_, fun b qs q => ?_⟩ (fun b u q => ?_) I.bare (fun b hb => by rw [List.mem_singleton.mp hb]; exact ⟨f3, f1, f4, f5⟩)
  · rw [upd_ne (fun z => hx (by rw [z]; exact List.mem_singleton.mpr rfl))]; exact n
  · rw [upd_ne (ne_of_none q hn)]; exact q
  · rw [upd_ne (ne_of_none q hn)]; exact q
  · exact ⟨#[], by rw [upd_ne (ne_of_none q hn), q]; simp⟩
  · by_cases hb : b = S
    · subst hb
      rw [upd_same] at q
      cases q
      exact ⟨hlen, acc.toList, c, r, by rw [e]⟩
    · rw [upd_ne hb] at q
      exact (I.hok b u q).stay (fun _ _ _ z => z) (fun d z => by rw [upd_ne (ne_of_none z hn)]; exact z) fun d xs z => by rw [upd_ne (ne_of_none z hn)]; exact z
/-- where the zip stands at turn k -/
def Zst (a b z TI TO i1 i2 S : Addr) (h : Heap) (k : Nat) : Prop := IsPair h TI (.ref i1) (.ref i2) ∧ h.IsTupleIter i1 a k ∧ h.IsTupleIter i2 b k ∧
  ((IsZip h z TI TO .none ∧ ∃ x y, IsPair h TO x y) ∨ ∃ T f oT, IsZipHeld h z TI TO T f ∧ h.get? T = some oT ∧ T ≠ z ∧ T ≠ i1 ∧ T ≠ i2 ∧ T ≠ S ∧ ∃ oo, h.get? TO = some oo)
theorem zip_loop {a b z TI TO i1 i2 S : Addr} {A : Around} {R : Result → Shared → Prop} {res : Value} {H0 : Hp} {xs ys : List V} (hA : A.handled = none) (D : ZipApart z TI TO i1 i2 a b) (sz : S ≠ z) (sTI : S ≠ TI) (sTO : S ≠ TO) (s1 : S ≠ i1) (s2 : S ≠ i2) (hl : xs.length = ys.length) (hn : xs.length ≤ sizeLine)
    (hend : ∀ s' H' us, Inv X pins σ (upd H' S (.lst us)) s' → (∀ p o, H0 p = some o → H' p = some o) → H' S = none → Prs H' us (xs.zip ys) → R (.ok (.ret res)) s') :
    ∀ (r k : Nat) (s : Shared) (H : Hp) (us : List V) (acc : Array Value) (c : Nat), k + r = xs.length → Inv X pins σ H s → SqT X.K H a xs → SqT X.K H b ys → (∀ c ∈ [z, TI, TO, i1, i2, S], FpOk X pins H c) → Zst a b z TI TO i1 i2 S s.heap k → s.heap.get? S = some (lstObj acc c) → Vals us acc.toList →
      Prs H us ((xs.zip ys).take k) → (∀ p o, H0 p = some o → H p = some o) → codeAny (model X.prog X.w) A (.builtin "list.extend.loop" ⟨[.ref S, .ref z, res], []⟩) R s := by
  have hzl : (xs.zip ys).length = xs.length := by rw [List.length_zip]; omega
  intro r
  induction r with
  | zero =>
    intro k s H us acc c hk I hX hY hf st hS hv hp hs
    have ek : k = xs.length := by omega
    subst ek
    rw [List.take_of_length_le (by rw [hzl]; exact Nat.le_refl _)] at hp
    obtain ⟨hTI, h1, h2, hz⟩ := st
    obtain ⟨ua, ra, pa, _⟩ := I.tuple hX
    have la := ra.length
    refine codeAny_builtin F.entry_extend_loop ?_
    rw [Around.under_plainId F.plain_extend_loop _]
    show wpAny _ A.in1 (pyNext (.ref z) >>= _) _ _ s
    have fin : ∀ h', (∀ c o, c ≠ z → c ≠ i1 → s.heap.get? c = some o → h'.get? c = some o) → R (.ok (.ret res)) { s with heap := h' } := fun h' hk' => by
      have I2 : Inv X pins σ H { s with heap := h' } := I.turnedL (t' := s.toks) (ch := [z, TI, TO, i1, i2, S]) (fun c o hb q => by
        simp only [List.mem_cons, List.not_mem_nil, or_false, not_or] at hb
        exact hk' c o hb.1 hb.2.2.2.1 q) hf
      exact hend _ H us (track I2 (hf S (by simp)) (by rw [hp.1, hzl]; exact hn) (hk' _ _ sz s1 hS) hv) hs (hf S (by simp)).1 hp
    rcases hz with ⟨hz, _⟩ | ⟨T, f, oT, hz, hT, _⟩
    · refine wpAny_bind (next_end hA D.i1z (ends_tup (xs := ua.toArray) (by simp; omega)) (off_tup D.i1z D.l1z) hz hTI ⟨h1, pa⟩ fun h' hk' => ?_)
      exact wpAny_pure (fin h' hk')
    · refine wpAny_bind (held_end hA (ends_tup (xs := ua.toArray) (by simp; omega)) (off_tup D.i1z D.l1z) hz hT hTI ⟨h1, pa⟩ fun h' hk' => ?_)
      exact wpAny_pure (fin h' hk')
  | succ r ih =>
    intro k s H us acc c hk I hX hY hf st hS hv hp hs
    have hk1 : k < xs.length := by omega
    have hk2 : k < ys.length := by omega
    obtain ⟨hTI, h1, h2, hz⟩ := st
    obtain ⟨ua, ra, pa, _⟩ := I.tuple hX
    obtain ⟨ub, rb, pb, _⟩ := I.tuple hY
    obtain ⟨u1, hu1, r1⟩ := ra.get (List.getElem?_eq_getElem hk1)
    obtain ⟨u2, hu2, r2⟩ := rb.get (List.getElem?_eq_getElem hk2)
    have lacc : acc.size = k := by
      have q1 := hv.length
      have q2 := hp.1
      rw [List.length_take, hzl] at q2
      have e2 : acc.toList.length = acc.size := by simp
      omega
    have big : k < sizeLine := Nat.lt_of_lt_of_le hk1 hn
    refine codeAny_builtin F.entry_extend_loop ?_
    rw [Around.under_plainId F.plain_extend_loop _]
    show wpAny _ A.in1 (pyNext (.ref z) >>= _) _ _ s
    have lt : ∀ {c o}, s.heap.get? c = some o → s.heap.objs.size ≠ c := fun e => Nat.ne_of_gt (Heap.lt_size e)
    have n1 : s.heap.objs.size ≠ i1 := let ⟨_, e, _⟩ := h1; lt e
    have n2 : s.heap.objs.size ≠ i2 := let ⟨_, e, _⟩ := h2; lt e
    have nS : s.heap.objs.size ≠ S := lt hS
    have nH : H s.heap.objs.size = none := I.hok.fresh (Nat.le_refl _)
    have hzz : ∃ o, s.heap.get? z = some o := by
      rcases hz with ⟨hz, _⟩ | ⟨T, f, oT, hz, _⟩
      · exact ⟨_, hz⟩
      · exact ⟨_, hz⟩
    have hTO' : ∃ o, s.heap.get? TO = some o := by
      rcases hz with ⟨_, _, _, e⟩ | ⟨T, f, oT, _, _, _, _, _, _, e⟩
      · exact ⟨_, e⟩
      · exact e
    obtain ⟨oz, ez⟩ := hzz
    have nz : s.heap.objs.size ≠ z := lt ez
    obtain ⟨oto, eto⟩ := hTO'
    have nTO : s.heap.objs.size ≠ TO := lt eto
    have turn : ∀ (h' : Heap), IsPair h' s.heap.objs.size u1 u2 → (∀ c o, c ≠ z → c ≠ TO → c ≠ i1 → c ≠ i2 → s.heap.get? c = some o → h'.get? c = some o) → Zst a b z TI TO i1 i2 S h' (k + 1) →
        codeAny (model X.prog X.w) A (.builtin "list.extend.loop" ⟨[.ref S, .ref z, res], []⟩) R { s with heap := h'.update S (Obj.mapSeq (·.push (Value.ref s.heap.objs.size))) } := fun h' hT hk' st' => by
      have eS : h'.get? S = some (lstObj acc c) := hk' _ _ sz sTO s1 s2 hS
      have up : ∀ c o, c ≠ S → h'.get? c = some o → (h'.update S (Obj.mapSeq (·.push (Value.ref s.heap.objs.size)))).get? c = some o := fun c o n e => (Heap.get?_update_other _ _ (Ne.symm n)).trans e
      have new : ObjOk X.prog X.w (upd H s.heap.objs.size (.tup [xs[k], ys[k]])) (h'.update S (Obj.mapSeq (·.push (Value.ref s.heap.objs.size)))) s.heap.objs.size (.tup [xs[k], ys[k]]) :=
        ⟨by show 2 ≤ sizeLine; decide, [u1, u2], .cons r1 (.cons r2 .nil), ⟨_, up _ _ nS hT, rfl, _, rfl⟩⟩
      have I1 : Inv X pins σ (upd H s.heap.objs.size (.tup [xs[k], ys[k]])) { s with heap := h'.update S (Obj.mapSeq (·.push (Value.ref s.heap.objs.size))) } :=
        I.turnedNew (t' := s.toks) (ch := [z, TI, TO, i1, i2, S]) (fun c o hb q => by
          simp only [List.mem_cons, List.not_mem_nil, or_false, not_or] at hb
          exact up c o hb.2.2.2.2.2 (hk' c o hb.1 hb.2.2.1 hb.2.2.2.1 hb.2.2.2.2.1 q)) hf (Nat.le_refl _) new
      have grow : ∀ p o, H p = some o → upd H s.heap.objs.size (.tup [xs[k], ys[k]]) p = some o := fun p o e => by rw [upd_ne (ne_of_none e nH)]; exact e
      have ts : ∀ {p : Addr} {zs : List V}, SqT X.K H p zs → SqT X.K (upd H s.heap.objs.size (.tup [xs[k], ys[k]])) p zs := fun h => My.same_seqT (fun p o e => grow p o e) h
      have st2 : Zst a b z TI TO i1 i2 S (h'.update S (Obj.mapSeq (·.push (Value.ref s.heap.objs.size)))) (k + 1) := by
        obtain ⟨q1, q2, q3, q4⟩ := st'
        refine ⟨up _ _ sTI.symm q1, q2.at fun o e => up _ o s1.symm e, q3.at fun o e => up _ o s2.symm e, ?_⟩
        rcases q4 with ⟨q4, x, y, q5⟩ | ⟨T, f, oT, q4, q5, t1, t2, t3, t4, oo, t5⟩
        · exact .inl ⟨up _ _ sz.symm q4, x, y, up _ _ sTO.symm q5⟩
        · exact .inr ⟨T, f, oT, up _ _ sz.symm q4, up _ _ t4 q5, t1, t2, t3, t4, oo, up _ _ sTO.symm t5⟩
      have ek : (xs.zip ys)[k]? = some (xs[k], ys[k]) := by rw [List.getElem?_zip_eq_some]; exact ⟨List.getElem?_eq_getElem hk1, List.getElem?_eq_getElem hk2⟩
      refine ih (k + 1) _ _ (us ++ [.ref s.heap.objs.size]) (acc.push (.ref s.heap.objs.size)) _ (by omega) I1 (ts hX) (ts hY) (fun c hc => ?_) st2 (Heap.get?_update_self _ eS rfl) ?_ ?_ (fun p o e => grow p o (hs p o e))
      · refine ⟨?_, (hf c hc).2⟩
        have hne : c ≠ s.heap.objs.size := fun e => by
          simp only [List.mem_cons, List.not_mem_nil, or_false] at hc
          rcases hc with h | h | h | h | h | h
          · exact nz (e ▸ h)
          · exact lt hTI (e ▸ h)
          · exact nTO (e ▸ h)
          · exact n1 (e ▸ h)
          · exact n2 (e ▸ h)
          · exact nS (e ▸ h)
        rw [upd_ne hne]
        exact (hf c hc).1
      · rw [Array.toList_push]
        exact hv.append (.cons rfl .nil)
      · rw [List.take_add_one, ek]
        exact (hp.mono grow).snoc upd_same
    rcases hz with ⟨hz, x0, y0, hTO⟩ | ⟨T, f, oT, hz, hT, t1, t2, t3, t4, oo, t5⟩
    · refine wpAny_bind (next_item D.TOz D.i1z D.i2z D.TOi1 D.TOi2 D.i12 (gives_tup (xs := ua.toArray) (x := u1) (by simpa using hu1)) (gives_tup (xs := ub.toArray) (x := u2) (by simpa using hu2)) (off_tup D.i1z D.l1z) (off_tup D.i2z D.l2z) (off_tup D.TOi2.symm D.l2TO) (off_tup D.i12.symm D.l2i1)
        hz hTI hTO ⟨h1, pa⟩ ⟨h2, pb⟩ fun h' g1 g2 z' TO' q1 k1 q2 k2 hT hk' => ?_)
      show wpAny _ A.in1 (updateSeq S (·.push (Value.ref s.heap.objs.size)) >>= _) _ _ _
      refine wpAny_bind ?_
      refine wpAny_updateSeq (hk' _ _ sz sTO s1 s2 hS) rfl (wpAny_pure ⟨plainId_quiet F.plain_extend_loop _, ?_⟩) (by show acc.size ≤ sizeLine; omega) (by show (acc.push _).size ≤ sizeLine + 1; rw [Array.size_push]; omega)
      exact turn h' hT hk' ⟨hk' _ _ D.TIz D.TITO D.TIi1 D.TIi2 hTI, q1.at k1, q2.at k2, .inr ⟨_, false, _, z', hT, nz, n1, n2, nS, _, TO'⟩⟩
    · refine wpAny_bind (held_item D.i1z D.i2z D.i12 (gives_tup (xs := ua.toArray) (x := u1) (by simpa using hu1)) (gives_tup (xs := ub.toArray) (x := u2) (by simpa using hu2)) (off_tup D.i1z D.l1z) (off_tup D.i2z D.l2z) (off_tup D.i12.symm D.l2i1)
        hz hT hTI ⟨h1, pa⟩ ⟨h2, pb⟩ fun h' g1 g2 z' q1 k1 q2 k2 hT' hk' => ?_)
      show wpAny _ A.in1 (updateSeq S (·.push (Value.ref s.heap.objs.size)) >>= _) _ _ _
      refine wpAny_bind ?_
      refine wpAny_updateSeq (hk' _ _ sz s1 s2 hS) rfl (wpAny_pure ⟨plainId_quiet F.plain_extend_loop _, ?_⟩) (by show acc.size ≤ sizeLine; omega) (by show (acc.push _).size ≤ sizeLine + 1; rw [Array.size_push]; omega)
      exact turn h' hT' (fun c o c1 _ c3 c4 e => hk' c o c1 c3 c4 e) ⟨hk' _ _ D.TIz D.TIi1 D.TIi2 hTI, q1.at k1, q2.at k2, .inr ⟨T, true, _, z', hk' _ _ t1 t2 t3 hT, t1, t2, t3, t4, oo, hk' _ _ D.TOz D.TOi1 D.TOi2 t5⟩⟩
def tLz (K : PySem.W.Frag) (ta : TA) : TE := fun σ H Q => ta σ H fun vs H1 => ∃ (a b : Addr) (xs ys : List V), vs = [.ref a, .ref b] ∧ SqT K H1 a xs ∧ SqT K H1 b ys ∧ xs.length = ys.length ∧ xs.length ≤ sizeLine ∧
  ∀ (H2 : Hp) (p : Addr) (us : List V), (∀ q o, H1 q = some o → H2 q = some o) → H2 p = none → Prs H2 us (xs.zip ys) → Q (.ref p) (upd H2 p (.lst us))
theorem pe_listZip {e1 e2 : Expr} {ta : TA} {pl pz pn pos : Pos} (hcalm : X.calm = true) (hgl : Gl X "list") (hml : X.mg "list" = none) (hg : Gl X "zip") (hm : X.mg "zip" = none) (ha : PA X [e1, e2] ta)
    (he : starEach [e1, e2] X.env = (false, eval e1 X.env) :: starEach [e2] X.env := by rfl) (hpl : (backTo pz (starEach [e2] X.env)).any (·.1) = false := by rfl)
    (hl : starEach [.Call (.Name "zip" pn) [e1, e2] [] pz] X.env = (false, eval (.Call (.Name "zip" pn) [e1, e2] [] pz) X.env) :: starEach [] X.env := by rfl) :
    PE X (.Call (.Name "list" pl) [.Call (.Name "zip" pn) [e1, e2] [] pz] [] pos) (tLz X.K ta) := by
  refine ⟨fun pins s σ H Q I h => ?_⟩
  refine wpAny_Call_Name_kw (ld_blt I hgl hml My.bt_list ?_)
  refine PyProof.Rows.callWith_type1 ?_ hl rfl
  rw [hl]
  show wpAny _ _ (spliced ((false, eval (.Call (.Name "zip" pn) [e1, e2] [] pz) X.env) :: backTo pos (starEach [] X.env))) _ _ s
  refine Calls.spliced_cons ?_
  refine Call_ (ld_blt I hg hm PyProof.Rows.boot_zip (PyProof.Rows.callWith_type1 (thn (ha.run pz pins s σ H _ I h) fun us s1 ⟨vs, H1, I1, r1, q1⟩ => ?_) he hpl))
  obtain ⟨a, b, xs, ys, ex, hX, hY, hlen, hsz, q⟩ := q1
  subst ex
  obtain ⟨u1, u2, rfl, ra, rb⟩ := vals2 r1
  obtain rfl : u1 = Value.ref a := ra
  obtain rfl : u2 = Value.ref b := rb
  obtain ⟨its, rv, p1, _⟩ := I1.tuple hX
  obtain ⟨jts, rw', p2, _⟩ := I1.tuple hY
  obtain ⟨o1, ho1, oc1, od1⟩ := _root_.id p1
  obtain ⟨o2, ho2, oc2, od2⟩ := _root_.id p2
  have aL : a < s1.heap.objs.size := Heap.lt_size ho1
  have bL : b < s1.heap.objs.size := Heap.lt_size ho2
  refine RZ.call_zipT (show s1.heap.IsTuple a its.toArray from p1) (show s1.heap.IsTuple b jts.toArray from p2) fun h' hz hTI hTO h1 h2 hz5 hk => ?_
  refine Calls.spliced_nil ?_
  have D : ZipApart (s1.heap.objs.size + 4) (s1.heap.objs.size + 2) (s1.heap.objs.size + 3) s1.heap.objs.size (s1.heap.objs.size + 1) a b := PySem.W.ktu_apart s1.heap.objs.size a b aL bL
  generalize eN : s1.heap.objs.size = n at *
  have I2 : Inv X pins σ H1 { s1 with heap := h' } := I1.kept (t' := s1.toks) hk
  have hh : X.A.handled = none := I1.ok.hd hcalm
  refine callType_codes (Q₁ := fun obj s₁ => obj = .ref h'.objs.size ∧ s₁ = { s1 with heap := h'.push { cls := .type "list", data := .seq #[] } }) F.called_list (F.typeCall_list_1 _) F.entry_list_init
    (code_list_new _ ⟨rfl, rfl⟩) fun obj s₁ hq => ?_
  obtain ⟨rfl, rfl⟩ := hq
  have hS : (h'.push { cls := .type "list", data := .seq #[] }).get? h'.objs.size = some { cls := .type "list", data := .seq #[] } := Heap.get?_push_size _ rfl
  refine ⟨⟨_, hS, rfl⟩, F.args_list_init_2 _ _, ?_⟩
  show wpAny _ X.A.in1.in1 (do let old ← Builtin.List.listItems (.ref h'.objs.size); Builtin.List.listUpdate (.ref h'.objs.size) (fun _ => #[]); letGo old.toList.reverse; Builtin.List.listExtendWith (.ref h'.objs.size) (.ref (n + 4)) .none) _ _ _
  refine wpAny_bind ?_
  unfold Builtin.List.listItems
  refine wpAny_bind (wpAny_seqItems hS rfl (wpAny_pure ?_))
  show wpAny _ X.A.in1.in1 (updateSeq h'.objs.size (fun _ => #[]) >>= fun _ => letGo (#[] : Array Value).toList.reverse >>= fun _ => Builtin.List.listExtendWith (.ref h'.objs.size) (.ref (n + 4)) .none) _ _ _
  refine wpAny_bind (wpAny_updateSeq hS rfl ?_)
  have hS2 := Heap.get?_update_self (Obj.mapSeq (fun _ => (#[] : Array Value))) hS rfl
  refine wpAny_bind (wpAny_letGo ?_)
  unfold Builtin.List.listExtendWith
  have up : ∀ (h : Heap) (f : Obj → Obj), (∀ b o, h'.get? b = some o → h.get? b = some o) → ∀ b o, h'.get? b = some o → (h.update h'.objs.size f).get? b = some o := fun h f q b o e =>
    (Heap.get?_update_other _ _ (Ne.symm (Nat.ne_of_lt (Heap.lt_size e)))).trans (q b o e)
  have k1 : ∀ b o, h'.get? b = some o → (h'.push { cls := .type "list", data := .seq #[] }).get? b = some o := fun b o e => Heap.get?_push_of_some _ e
  have k2 := up _ (Obj.mapSeq (fun _ => (#[] : Array Value))) k1
  have zty : ∀ {h : Heap}, (∀ b o, h'.get? b = some o → h.get? b = some o) → ({ s1 with heap := h } : Shared).TypeIs (.ref (n + 4)) "zip" := fun {h} q => ⟨_, q _ _ hz, rfl⟩
  refine wpAny_bind (wpAny_typeOf (zty k2) ?_)
  have hSa : h'.objs.size ≠ n + 4 := by omega
  have c1 : Builtin.List.listSameRef (.ref h'.objs.size) (.ref (n + 4)) = false := by simp [Builtin.List.listSameRef, hSa]
  have c2 : (Value.type "zip" == Value.type "list") = false := by decide
  have c3 : (Value.type "zip" == Value.type "tuple") = false := by decide
  simp only [c1, c2, c3, Bool.or_false, Bool.false_eq_true, if_false]
  refine wpAny_bind (wpAny_pyIter_zip (s := { s1 with heap := _ }) (k2 _ _ hz) ?_)
  refine wpAny_bind (wpAny_holding ?_)
  unfold Builtin.List.listLengthHint
  refine wpAny_bind (wpAny_specialOf (zty k2) zip_no_len ?_)
  show wpAny _ X.A.in1.in1 (specialOf (Value.ref (n + 4)) (Str.ofString "__length_hint__") >>= _) _ _ _
  refine wpAny_bind (wpAny_specialOf (zty k2) zip_no_hint ?_)
  refine wpAny_pure ?_
  show wpAny _ X.A.in1.in1 (rule "list.extend.makes-room" >>= fun _ => Builtin.List.listTouch (.ref h'.objs.size) >>= fun _ =>
    again (.builtin "list.extend.loop" ⟨[.ref h'.objs.size, .ref (n + 4), .none], []⟩)) _ _ _
  refine wpAny_bind (wpAny_rule ?_)
  refine wpAny_bind ?_
  show wpAny _ X.A.in1.in1 (updateSeq h'.objs.size (·.push .none) >>= fun _ => updateSeq h'.objs.size (·.pop)) _ _ _
  refine wpAny_bind (wpAny_updateSeq hS2 rfl ?_)
  have hS3 := Heap.get?_update_self (Obj.mapSeq (·.push Value.none)) hS2 rfl
  refine wpAny_updateSeq (hz := by seq_fits) hS3 rfl ?_
  have hS4 := Heap.get?_update_self (Obj.mapSeq (·.pop)) hS3 rfl
  have k4 := up _ (Obj.mapSeq (·.pop)) (up _ (Obj.mapSeq (·.push Value.none)) k2)
  refine wpAny_pure ⟨plainId_quiet F.plain_extend_loop _, ?_⟩
  generalize (((h'.push { cls := .type "list", data := .seq #[] }).update h'.objs.size (Obj.mapSeq (fun _ => (#[] : Array Value)))).update h'.objs.size (Obj.mapSeq (·.push Value.none))).update h'.objs.size (Obj.mapSeq (·.pop)) = h9 at hS4 k4 ⊢
  have I4 : Inv X pins σ H1 { s1 with heap := h9 } := I2.kept (t' := s1.toks) k4
  have t2 : h'.objs.size ≠ n + 2 := by omega
  have t3 : h'.objs.size ≠ n + 3 := by omega
  have t0 : h'.objs.size ≠ n := by omega
  have t1 : h'.objs.size ≠ n + 1 := by omega
  have t5 : n ≤ h'.objs.size := by omega
  refine zip_loop (X := X) (pins := pins) (σ := σ) (A := X.A.in1) (H0 := H1) (xs := xs) (ys := ys) hh D hSa t2 t3 t0 t1 hlen hsz (fun s' H' us J g1 g2 g3 => ?_) xs.length 0 _ H1 [] #[] _ (Nat.zero_add _) I4 hX hY (fun c hc => ?_)
    ⟨k4 _ _ hTI, h1.at fun o e => k4 _ o e, h2.at fun o e => k4 _ o e, .inl ⟨k4 _ _ hz, _, _, k4 _ _ hTO⟩⟩ hS4 .nil ⟨rfl, fun j p e => by simp at e⟩ fun p o e => e
  · exact ⟨rfl, .ref _, _, J, rfl, q H' _ us g1 g2 g3⟩
  · have le : n ≤ c := by
      simp only [List.mem_cons, List.not_mem_nil, or_false] at hc
      rcases hc with h | h | h | h | h | h <;> rw [h]
      · exact Nat.le_add_right _ _
      · exact Nat.le_add_right _ _
      · exact Nat.le_add_right _ _
      · exact Nat.le_refl _
      · exact Nat.le_add_right _ _
      · exact t5
    have le' : s1.heap.objs.size ≤ c := by rw [eN]; exact le
    exact I1.fpOk le' (I1.hok.fresh le')
end
end ZM

set_option maxHeartbeats 1000000
namespace My
open PySem PySem.Spec PyProof.Rows L2 GX GxR
abbrev sCount : Stmt := topS 25
abbrev nCt : List Str := ["_law_want_here", "_law_left_here", "_law_most_here", "_law_n", "_law_pairs", "_law_one", "_law_other"]
theorem scCount : FnScope nCt ["_law_want_here", "_law_left_here", "_law_most_here"] (defScope sCount) := ⟨rfl, rfl, rfl, by decide +kernel, rfl, by decide +kernel, by decide +kernel⟩
def spCount : Sp := fun vs H Q _ => ∃ (pw pl : Addr) (most : Int) (xs ys : List Int), vs = [.ref pw, .ref pl, .int most] ∧ H pw = some (.tup (xs.map V.int)) ∧ H pl = some (.tup (ys.map V.int)) ∧ xs.length = ys.length ∧ xs.length ≤ 8 ∧ Amt xs ∧ Amt ys ∧ quots xs ys ≠ [] ∧ 0 ≤ most ∧ most ≤ 100 ∧
  ∀ H', Same H H' → Q (.int (cnt most xs ys)) H'
section
variable {P : Program} {w : World} {K : PySem.W.Frag} {mg : Str → Option Value} {base : Heap}
theorem ok_count {f : Addr} {fd : FuncData} {k : Nat} (F : Fun K "_law_count" "_law_count" sCount f fd) (X : Txt mg) : FnOk P w K mg base CX0 (k + 1) f fd ["_law_want_here", "_law_left_here", "_law_most_here"] spCount := by
  refine F.ok scCount (fun vs H Q E h => ?_) (fun cdv A outer s H vs Q E hr h => ?_)
  · obtain ⟨pw, pl, most, xs, ys, rfl, _⟩ := h
    rfl
  · obtain ⟨pw, pl, most, xs, ys, rfl, hw, hl, hlen, h8, hA, hB, hne, m0, m1, q⟩ := h
    refine ⟨_, pss_cons (ps_set (i := 3) scCount.nd rfl (.inr rfl) pe_int)
      (pss_cons (ps_set (i := 4) scCount.nd rfl (.inl rfl) (ZM.pe_listZip rfl (by rfl) X.lst (by rfl) X.zip (pa_cons (pv 0) (pa_cons (pv 1) pa_nil))))
      (pss_cons (ps_while PassesOwn.never (PW.pt (pw_and (pt_cmpR op_lt (pv 3) (pv 2) (nomark _)) (pw_and1 (pt_val (pe_callB (cr_all rfl) (by rfl) X.all (by decide +kernel) (pa_cons
          (pe_lc (own := [("_law_one", 5), ("_law_other", 6)]) (g := gTup K 2 (gCons (gName 5) (gCons (gName 6) gNil))) (tt := tYes) rfl scCount.nd (pi_list (pv 4)) (blkOk_by (own := [("_law_one", 5), ("_law_other", 6)]) (N := nCt) (sc := defScope sCount) (by decide +kernel))
            (fun _ _ _ _ _ => pg_tup rfl (pgs_cons (pg_name (i := 5) scCount.nd rfl (Or.inl rfl)) (pgs_cons (pg_name (i := 6) scCount.nd rfl (Or.inl rfl)) pgs_nil))) (fun _ _ _ _ _ => pts_nil)
            (fun _ _ _ _ _ => pe_cmpR op_le (pe_op op_mul (pv 5) (pe_op op_add (pv 3) pe_int)) (pv 6) (nomark _))) pa_nil))))))
        (pss_one (ps_set (i := 3) scCount.nd rfl (.inr rfl) (pe_op op_add (pv 3) pe_int))))
      (pss_one (ps_ret (pv 3))))), ?_⟩
    refine ⟨_, rfl, _, rfl, pw, pl, _, _, rfl, SqT.of hw, SqT.of hl, by rw [List.length_map, List.length_map]; exact hlen, by rw [List.length_map]; exact Nat.le_of_lt (small1000 (by omega)), fun H1 pp us g1 np hp => ?_⟩
    have s1 : Same H (upd H1 pp (.lst us)) := Same.trans g1 (same_upd np)
    have lus : us.length = xs.length := by rw [hp.1, List.length_zip, List.length_map, List.length_map]; omega
    refine ⟨fun m σ H' => ∃ n : Int, σ = [some (.ref pw), some (.ref pl), some (.int most), some (.int n), some (.ref pp), none, none] ∧ (m : Int) = most - n ∧ 0 ≤ n ∧ n ≤ most ∧ n ≤ leastL (quots xs ys) ∧ Same H H' ∧ H' pp = some (.lst us) ∧ ZM.Prs H' us ((xs.map V.int).zip (ys.map V.int)),
      ⟨most.toNat, 0, rfl, by omega, by omega, m0, ?_, s1, upd_same, hp.mono (same_upd np)⟩, fun m σ H' => ?_⟩
    · obtain ⟨a1, _⟩ := least_mem hne
      exact quots_nn xs ys (fun y hy => (hB y hy).1) _ a1
    · rintro ⟨n, rfl, hm, n0, n1, n2, sH, ep, hpr⟩
      have stop : ∀ H2, Same H H2 → n = cnt most xs ys → Q (.int n) H2 := fun H2 s2 e => by
        rw [e]
        exact q H2 s2
      refine ⟨_, rfl, _, rfl, n, most, rfl, rfl, _, rfl, ite2 (fun e => ?_) (fun e => iteF ⟨_, rfl, stop _ sH ?_⟩)⟩
      · have e1 := of_decide_eq_true e
        refine ⟨_, rfl, pp, rfl, ⟨_, SqL.of ep⟩, fun D nD => ?_⟩
        refine lc_list (K := K) (xs := us) (fun i H3 => Same H' H3 ∧ H3 D = some (.lst (((List.zipWith (fun x y : Int => decide (x * (n + 1) ≤ y)) xs ys).take i).map V.bl))) ⟨same_upd nD, upd_same⟩ (fun i H3 _ p => SqL.of (p.1 _ _ ep)) (fun i x H3 hx p => ?_) (fun H3 p => ?_)
        · obtain ⟨p1, p2⟩ := p
          have hi : i < xs.length := by rw [← lus]; exact (List.getElem?_eq_some_iff.mp hx).1
          have hj : i < ys.length := by omega
          have gx1 : xs[i]? = some xs[i] := List.getElem?_eq_getElem hi
          have gy1 : ys[i]? = some ys[i] := List.getElem?_eq_getElem hj
          obtain ⟨T1, t1, t2⟩ := hpr.2 i (.int xs[i], .int ys[i]) (by rw [List.getElem?_zip_eq_some, List.getElem?_map, List.getElem?_map, gx1, gy1]; exact ⟨rfl, rfl⟩)
          rw [hx] at t1
          cases t1
          have hxi := hA xs[i] (List.getElem_mem hi)
          refine ⟨T1, [.int xs[i], .int ys[i]], rfl, SqT.of (p1 _ _ t2), rfl, .int xs[i], [.int ys[i]], rfl, .int ys[i], [], rfl, rfl, rfl, ?_⟩
          refine ⟨_, rfl, _, rfl, n, 1, rfl, rfl, xs[i], n + 1, rfl, rfl, .inl ⟨by omega, by omega⟩, _, rfl, _, ys[i], rfl, rfl, _, p2, ?_, same_putA p1 nD, ?_⟩
          · rw [List.length_map, List.length_take]
            exact small1000 (by rw [List.length_zipWith]; omega)
          · rw [upd_same, List.take_add_one, List.getElem?_zipWith, gx1, gy1, List.map_append]
            rfl
        · obtain ⟨p1, p2⟩ := p
          rw [List.take_of_length_le (by rw [List.length_zipWith]; omega)] at p2
          have fe : (List.zipWith (fun x y : Int => decide (x * (n + 1) ≤ y)) xs ys).all _root_.id = decide (n + 1 ≤ leastL (quots xs ys)) := fit_iff (fun x hx => (hA x hx).1) (fun y hy => (hB y hy).1) hlen hne
          refine ⟨D, _, rfl, SqL.of p2, _, rfl, ite2 (fun e2 => ?_) (fun e2 => ⟨_, rfl, stop _ (sH.trans p1) ?_⟩)⟩
          · rw [fe] at e2
            have e3 := of_decide_eq_true e2
            refine ⟨fun σ' H4 => ∃ m', m' < m ∧ _, fun σ' H4 z => z, ?_⟩
            refine ⟨_, rfl, n, 1, rfl, rfl, m - 1, by omega, n + 1, rfl, by omega, by omega, by omega, e3, sH.trans p1, p1 _ _ ep, hpr.mono p1⟩
          · rw [fe] at e2
            have e3 : ¬ n + 1 ≤ leastL (quots xs ys) := fun z => e2 (decide_eq_true z)
            unfold cnt
            split <;> omega
      · have e1 : ¬ n < most := fun z => e (decide_eq_true z)
        unfold cnt
        split <;> omega
end
end My

set_option maxHeartbeats 1000000
namespace My
open PySem PySem.Spec PyProof.Rows L2 GX GxR
abbrev sLCounts : Stmt := topS 26
abbrev nLC : List Str := ["_law_site_here", "_law_many_here", "_law_want_here", "_law_how", "_law_most_here", "_law_found", "_law_house", "_law_yard", "_law_left_here"]
theorem scLCounts : FnScope nLC ["_law_site_here", "_law_many_here", "_law_want_here", "_law_how"] (defScope sLCounts) := ⟨rfl, rfl, rfl, by decide +kernel, rfl, by decide +kernel, by decide +kernel⟩
def Hows : List Str := ["any", "apart", "near", "wide"]
def spLCounts : Sp := fun vs H Q _ => ∃ (s pw : Addr) (many : Int) (how : Str) (want : List Int) (rs : List House), vs = [.ref s, .int many, .ref pw, .str how] ∧ SiteAt want.length H s rs ∧ H pw = some (.tup (want.map V.int)) ∧ Amt want ∧ (∃ n ∈ want, n ≠ 0) ∧ want.length ≤ 8 ∧ 1 ≤ many ∧ many ≤ 100 ∧ how ∈ Hows ∧
  ∀ (p : Addr) (rs' : List House) (H' : Hp), rs'.Perm rs → sortedS (rs'.map (·.name)) = true → Same H H' → H p = none → PairsF H' p (rowsC (mostOf how many) want rs') → Q (.ref p) H'
def kvsC (most : Int) (want : List Int) (rs : List House) : List (Key × V) := rs.map fun r => (.inr r.name, .int (cnt most want r.left))
theorem putK_new {kvs : List (Key × V)} {k : Key} {v : V} (h : ∀ p ∈ kvs, p.1 ≠ k) : putK kvs k v = kvs ++ [(k, v)] := by
  unfold putK
  rw [if_neg]
  intro z
  obtain ⟨p, hp, e⟩ := List.any_eq_true.mp z
  exact h p hp (of_decide_eq_true e)
theorem valV_C {most : Int} {want : List Int} : ∀ {rs : List House} {r : House}, (rs.map (·.name)).Nodup → r ∈ rs → valV (kvsC most want rs) (.inr r.name) = some (.int (cnt most want r.left))
  | x :: rs, r, nd, h => by
    rw [List.map_cons, List.nodup_cons] at nd
    by_cases e : x.name = r.name
    · have er : r = x := by
        rcases List.mem_cons.mp h with z | z
        · exact z
        · exact absurd (List.mem_map.mpr ⟨r, z, e.symm⟩) nd.1
      subst er
      exact valV_pos rfl
    · have hm : r ∈ rs := by
        rcases List.mem_cons.mp h with z | z
        · rw [z] at e; exact absurd rfl e
        · exact z
      show valV ((.inr x.name, .int (cnt most want x.left)) :: kvsC most want rs) (.inr r.name) = _
      rw [valV_neg (fun z => e (Sum.inr.inj z))]
      exact valV_C nd.2 hm
theorem merge4 {k1 k2 k3 k4 : Key} {a b c e : V} (h12 : k1 ≠ k2) (h13 : k1 ≠ k3) (h14 : k1 ≠ k4) (h23 : k2 ≠ k3) (h24 : k2 ≠ k4) (h34 : k3 ≠ k4) : mergeK [] [(k1, a), (k2, b), (k3, c), (k4, e)] = [(k1, a), (k2, b), (k3, c), (k4, e)] := by
  unfold mergeK
  rw [List.foldl_cons, putK_new (fun p (hp : p ∈ []) => by cases hp)]
  rw [List.foldl_cons, putK_new (fun p hp => by
    have z : p = (k1, a) := by simpa using hp
    rw [z]; exact h12)]
  rw [List.foldl_cons, putK_new (fun p hp => by
    have z : p = (k1, a) ∨ p = (k2, b) := by simpa using hp
    rcases z with z | z
    · rw [z]; exact h13
    · rw [z]; exact h23)]
  rw [List.foldl_cons, putK_new (fun p hp => by
    have z : p = (k1, a) ∨ p = (k2, b) ∨ p = (k3, c) := by simpa using hp
    rcases z with z | z | z
    · rw [z]; exact h14
    · rw [z]; exact h24
    · rw [z]; exact h34)]
  rfl
theorem most_val {how : Str} {many : Int} (hh : how ∈ Hows) : valV (mergeK [] [((.inr "any" : Key), V.int many), (.inr "near", .int many), (.inr "apart", .int 1), (.inr "wide", .int 1)]) (.inr how) = some (.int (mostOf how many)) := by
  have h12 : (Sum.inr (Str.ofString "any") : Key) ≠ Sum.inr (Str.ofString "near") := by decide
  have h13 : (Sum.inr (Str.ofString "any") : Key) ≠ Sum.inr (Str.ofString "apart") := by decide
  have h14 : (Sum.inr (Str.ofString "any") : Key) ≠ Sum.inr (Str.ofString "wide") := by decide
  have h23 : (Sum.inr (Str.ofString "near") : Key) ≠ Sum.inr (Str.ofString "apart") := by decide
  have h24 : (Sum.inr (Str.ofString "near") : Key) ≠ Sum.inr (Str.ofString "wide") := by decide
  have h34 : (Sum.inr (Str.ofString "apart") : Key) ≠ Sum.inr (Str.ofString "wide") := by decide
  rw [merge4 h12 h13 h14 h23 h24 h34]
  simp only [Hows, List.mem_cons, List.not_mem_nil, or_false] at hh
  rcases hh with z | z | z | z <;> subst z
  · rw [valV_pos rfl]; rfl
  · rw [valV_neg h13, valV_neg h23, valV_pos rfl]; rfl
  · rw [valV_neg h12, valV_pos rfl]; rfl
  · rw [valV_neg h14, valV_neg h24, valV_neg h34, valV_pos rfl]; rfl
section
variable {P : Program} {w : World} {K : PySem.W.Frag} {mg : Str → Option Value} {base : Heap}
theorem ok_lcounts {f fC : Addr} {fd fdC : FuncData} {k : Nat} (F : Fun K "_law_counts" "_law_counts" sLCounts f fd) (X : Txt mg) (mSorted : mg "sorted" = none)
    (GC : FnOk P w K mg base CX0 k fC fdC ["_law_want_here", "_law_left_here", "_law_most_here"] spCount) (mC : mg "_law_count" = some (.ref fC)) (kC : PySem.W.keepIn K (.ref fC) = true) (bC : Binds K fdC ["_law_want_here", "_law_left_here", "_law_most_here"] []) :
    FnOk P w K mg base CX0 (k + 1) f fd ["_law_site_here", "_law_many_here", "_law_want_here", "_law_how"] spLCounts := by
  refine F.ok scLCounts (fun vs H Q E h => ?_) (fun cdv A outer s H vs Q E hr h => ?_)
  · obtain ⟨s, pw, many, how, want, rs, rfl, _⟩ := h
    rfl
  · obtain ⟨s', pw, many, how, want, rs, rfl, ⟨us, hs1, hs2, hnd, h40, hall⟩, hW, hA, hnz, h8, hm, hm2, hh, q⟩ := h
    have tail : ∃ t : TS, PSs (cxOf CX0 P w K mg base nLC "_law_counts" (defScope sLCounts) f cdv A outer s H E).nox ((defBody sLCounts).drop 1) t ∧
        ∀ (H0 : Hp) (most : Int), Same H H0 → most = mostOf how many → t { nx := fun _ H' => Q .non H', rt := Q } [some (.ref s'), some (.int many), some (.ref pw), some (.str how), some (.int most), none, none, none, none] H0 := by
      refine ⟨_, pss_cons (ps_set (i := 5) scLCounts.nd rfl (.inr rfl) pe_dnewK)
        (pss_cons (ps_for PassesOwn.never rfl (pi_list (pv 0)) (pg_tup rfl (pgs_cons (pg_name (i := 6) scLCounts.nd rfl (.inl rfl)) (pgs_cons (pg_name (i := 7) scLCounts.nd rfl (.inl rfl)) (pgs_cons (pg_name (i := 8) scLCounts.nd rfl (.inl rfl)) pgs_nil))))
          (pss_one (ps_dput (hu_of hr) (pv 5) (pv 6) (pe_call GC hr (by rfl) mC kC bC .nil pass0 (pa_cons (pv 2) (pa_cons (pv 8) (pa_cons (pv 4) pa_nil)))) rfl)))
        (pss_one (ps_ret (pe_callTy SX.cr_tupF (by rfl) X.tup bt_tuple (pa_cons (pe_lc (own := [("_law_house", 6)]) (g := gName 6) (tt := tYes) rfl scLCounts.nd (pi_list (pe_callB (SX.cr_sortDk rfl hr.units) (by rfl) mSorted (by decide +kernel) (pa_cons (pv 5) pa_nil)))
          (blkOk_by (own := [("_law_house", 6)]) (N := nLC) (sc := defScope sLCounts) (by decide +kernel)) (fun _ _ _ _ _ => pg_name (i := 6) scLCounts.nd rfl (Or.inl rfl)) (fun _ _ _ _ _ => pts_nil)
          (fun _ _ _ _ _ => pe_tup (pa_cons (pv 6) (pa_cons (pe_dget (hu_of hr) (pv 5) (pv 6) (fun _ _ => rfl)) pa_nil)))) pa_nil))))), fun H0 most s0 em => fun d nd => ?_⟩
      obtain ⟨ps, ps1, ps2, ps3⟩ := houses_pairs hs2
      have lps : ps.length = rs.length := by rw [← ps2, List.length_map]
      have sd : Same H (upd H0 d (.dK [])) := s0.trans (same_upd nd)
      have nd' : H d = none := s0.free nd
      have m60 : 0 ≤ most ∧ most ≤ 100 := by
        rw [em]
        unfold mostOf
        split <;> omega
      refine ⟨_, rfl, s', rfl, ⟨_, SqL.of (sd _ _ hs1)⟩, ?_⟩
      refine for_list (xs := us) (fun i σ H' => ∃ y6 y7 y8, σ = [some (.ref s'), some (.int many), some (.ref pw), some (.str how), some (.int most), some (.ref d), y6, y7, y8] ∧ Same H H' ∧ H' d = some (.dK (kvsC most want (rs.take i)))) ⟨none, none, none, rfl, sd, upd_same⟩ (fun i σ H' _ p => ?_) (fun i x σ H' hx p => ?_) (fun σ H' p => ?_)
      · obtain ⟨_, _, _, _, p1, _⟩ := p
        exact SqL.of (p1 _ _ hs1)
      · obtain ⟨y6, y7, y8, rfl, p1, p2⟩ := p
        rw [← ps1, List.getElem?_map] at hx
        cases hw : ps[i]? with
        | none => rw [hw] at hx; cases hx
        | some wv =>
          rw [hw] at hx
          have hx : wv.1 = x := Option.some.inj hx
          have hmem : wv ∈ ps := List.mem_of_getElem? hw
          have hri : rs[i]? = some wv.2 := by rw [← ps2, List.getElem?_map, hw]; rfl
          have hmr : wv.2 ∈ rs := List.mem_of_getElem? hri
          have hi : i < rs.length := (List.getElem?_eq_some_iff.mp hri).1
          obtain ⟨al, ll, _, _⟩ := hall _ hmr
          have ha : HouseAt H' x wv.2 := by rw [← hx]; exact (ps3 wv hmem).same p1
          obtain ⟨t, l, rfl, h1, h2⟩ := ha
          have hne : quots want wv.2.left ≠ [] := quots_ne _ _ ll.symm (by
            obtain ⟨n, hn, nz⟩ := hnz
            exact ⟨n, hn, by have := (hA n hn).1; omega⟩)
          refine ⟨t, [.str wv.2.name, .str wv.2.yard, .ref l], rfl, SqT.of h1, rfl, .str wv.2.name, [.str wv.2.yard, .ref l], rfl, .str wv.2.yard, [.ref l], rfl, .ref l, [], rfl, rfl, ?_⟩
          refine ⟨_, rfl, _, rfl, _, rfl, pw, l, most, want, wv.2.left, rfl, p1 _ _ hW, h2, ll.symm, h8, hA, al, hne, m60.1, m60.2, fun H2 s2 => ?_⟩
          refine ⟨_, rfl, _, rfl, d, _, rfl, DPut.k (k := (Sum.inr wv.2.name : Key)) (s2 _ _ p2) ?_, ?_⟩
          · unfold kvsC
            rw [List.length_map, List.length_take]
            exact small1000 (by omega)
          refine ⟨_, _, _, rfl, same_putA (p1.trans s2) nd', ?_⟩
          rw [upd_same, putK_new, List.take_add_one, hri]
          · unfold kvsC
            rw [List.map_append]
            rfl
          · intro p hp e
            unfold kvsC at hp
            obtain ⟨r, hr', rfl⟩ := List.mem_map.mp hp
            have e : r.name = wv.2.name := Sum.inr.inj e
            obtain ⟨j, hj, ej⟩ := List.mem_iff_getElem.mp hr'
            rw [List.length_take] at hj
            rw [List.getElem_take] at ej
            have hn := List.pairwise_iff_getElem.mp hnd j i (by rw [List.length_map]; omega) (by rw [List.length_map]; omega) (by omega)
            rw [List.getElem_map, List.getElem_map] at hn
            have e3 : rs[i] = wv.2 := (List.getElem?_eq_some_iff.mp hri).2
            rw [ej, e3] at hn
            exact hn e
      · obtain ⟨y6, y7, y8, rfl, p1, p2⟩ := p
        have lus : us.length = rs.length := by rw [← ps1, List.length_map, lps]
        rw [lus, List.take_of_length_le (Nat.le_refl _)] at p2
        refine ⟨_, rfl, d, _, rs.map (·.name), rfl, .inl p2, by unfold kvsC; rw [List.map_map, List.map_map]; rfl, by rw [List.length_map]; omega, fun ys pp yp so npp => ⟨pp, rfl, ⟨_, SqL.of upd_same⟩, fun D nD => ?_⟩⟩
        obtain ⟨rs', rp, rfl⟩ := ST.perm_image yp rs rfl
        have epp : upd H' pp (.lst ((rs'.map (·.name)).map V.str)) pp = some (.lst ((rs'.map (·.name)).map V.str)) := upd_same
        have edd : upd H' pp (.lst ((rs'.map (·.name)).map V.str)) d = some (.dK (kvsC most want rs)) := same_upd npp _ _ p2
        have sHp : Same H (upd H' pp (.lst ((rs'.map (·.name)).map V.str))) := p1.trans (same_upd npp)
        generalize upd H' pp (.lst ((rs'.map (·.name)).map V.str)) = H1 at epp edd sHp nD ⊢
        have lrp : rs'.length = rs.length := rp.length_eq
        refine lc_list (K := K) (xs := (rs'.map (·.name)).map V.str) (fun i H3 => Same H1 H3 ∧ ∃ vs, H3 D = some (.lst vs) ∧ PairVs H3 vs (rowsC most want (rs'.take i))) ⟨same_upd nD, [], upd_same, .nil⟩ (fun i H3 _ p => SqL.of (p.1 _ _ epp)) (fun i x H3 hx p => ?_) (fun H3 p => ?_)
        · obtain ⟨q1, vs, q2, q3⟩ := p
          rw [List.getElem?_map, List.getElem?_map] at hx
          cases hw : rs'[i]? with
          | none => rw [hw] at hx; cases hx
          | some r =>
            rw [hw] at hx
            have hx : V.str r.name = x := Option.some.inj hx
            subst hx
            have hi : i < rs'.length := (List.getElem?_eq_some_iff.mp hw).1
            have hmr : r ∈ rs := rp.mem_iff.mp (List.mem_of_getElem? hw)
            have gd := DGet.k (H := H3) (a := d) (k := (Sum.inr r.name : Key)) (q1 _ _ edd)
            rw [valV_C hnd hmr] at gd
            refine ⟨rfl, ?_⟩
            refine ⟨_, rfl, _, rfl, _, rfl, d, _, rfl, gd, by show 2 ≤ sizeLine; decide, fun t nt => ⟨vs, same_upd nt _ _ q2, ?_, ?_, vs ++ [.ref t], upd_same, ?_⟩⟩
            · rw [q3.len]
              unfold rowsC
              rw [List.length_map, List.length_take]
              exact small1000 (by omega)
            · exact same_putA (q1.trans (same_upd nt)) nD
            · have := ((q3.same (same_upd (o := .tup [.str r.name, .int (cnt most want r.left)]) nt)).snoc (t := t) (z := r.name) (n := cnt most want r.left) upd_same).put (ys := vs ++ [.ref t]) (same_upd nt _ _ q2)
              rw [List.take_add_one, hw]
              unfold rowsC at this ⊢
              rw [List.map_append]
              exact this
        · obtain ⟨q1, vs, q2, q3⟩ := p
          rw [List.length_map, List.length_map, List.take_of_length_le (Nat.le_refl _)] at q3
          refine ⟨D, _, rfl, SqL.of q2, fun p' o' np' oc od => ?_⟩
          refine q p' rs' _ rp so (sHp.trans (q1.trans (same_upd np'))) (sHp.free (q1.free np')) ⟨vs, ⟨o', upd_same, oc, od⟩, ?_⟩
          rw [← em]
          exact q3.same (same_upd np')
    obtain ⟨t, ht, hq⟩ := tail
    refine ⟨_, pss_cons (ps_set (i := 4) scLCounts.nd rfl (.inl rfl) (pe_dget (hu_of hr) (pe_disp (pps_cons pe_str (pv 1) (pps_cons pe_str (pv 1) (pps_cons pe_str pe_int (pps_cons pe_str pe_int pps_nil)))) (by rfl) (by rfl) (fun z => by cases z) (by decide)) (pv 3) (fun _ _ => rfl))) ht, ?_⟩
    refine fun p np => ⟨_, rfl, _, rfl, ⟨upd_same, [(.inr "any", .int many), (.inr "near", .int many), (.inr "apart", .int 1), (.inr "wide", .int 1)], rfl, by show 4 ≤ 15; decide, ?_⟩⟩
    have sm : Same H (upd (upd H p (.dK [])) p (.dK (mergeK [] [(.inr "any", .int many), (.inr "near", .int many), (.inr "apart", .int 1), (.inr "wide", .int 1)]))) := same_putA (same_upd np) np
    refine ⟨_, rfl, p, .int (mostOf how many), rfl, ?_, hq _ _ sm rfl⟩
    have g := DGet.k (H := upd (upd H p (.dK [])) p (.dK (mergeK [] [(.inr "any", .int many), (.inr "near", .int many), (.inr "apart", .int 1), (.inr "wide", .int 1)]))) (a := p) (k := (Sum.inr how : Key)) upd_same
    rw [most_val hh] at g
    exact g
end
end My

namespace My
open PySem PySem.W PySem.Spec PyProof.Rows L2 GX GxR
theorem partA_mem {dn : List Int} : ∀ (Gs o l : List Gang) (ld : List Int) (G : Gang), (G ∈ (partA dn Gs o l ld).1 ∨ G ∈ (partA dn Gs o l ld).2.1) → G ∈ Gs ∨ G ∈ o ∨ G ∈ l
  | [], o, l, ld, G, h => by
    rcases h with h | h
    · exact .inr (.inl h)
    · exact .inr (.inr h)
  | F :: Gs, o, l, ld, G, h => by
    unfold partA at h
    split at h
    · rcases partA_mem Gs _ _ _ G h with h | h | h
      · exact .inl (List.mem_cons_of_mem _ h)
      · rcases List.mem_append.mp h with h | h
        · exact .inr (.inl h)
        · exact .inl (by rw [List.mem_singleton.mp h]; exact List.mem_cons_self)
      · exact .inr (.inr h)
    · rcases partA_mem Gs _ _ _ G h with h | h | h
      · exact .inl (List.mem_cons_of_mem _ h)
      · exact .inr (.inl h)
      · rcases List.mem_append.mp h with h | h
        · exact .inr (.inr h)
        · exact .inl (by rw [List.mem_singleton.mp h]; exact List.mem_cons_self)
theorem partRs_mem {dn : List Int} {Rs : List (Gang × Int)} {G : Gang} (h : G ∈ (partRs dn Rs).1 ∨ G ∈ (partRs dn Rs).2.1) : ∃ R ∈ Rs, R.1 = G := by
  rcases partA_mem _ _ _ _ G h with h | h | h
  · obtain ⟨R, h1, h2⟩ := List.mem_map.mp h
    exact ⟨R, (ord_perm Rs).mem_iff.mp h1, h2⟩
  · exact (nomatch h)
  · exact (nomatch h)
theorem dp_strs {K : PySem.W.Frag} {H : Hp} : ∀ zs : List Str, DpAll K H (zs.map V.str) (zs.map PyData.str)
  | [] => .nil
  | z :: zs => .cons (.str z) (dp_strs zs)
theorem lay_strs : ∀ {zs : List Str}, (∀ z ∈ zs, PySem.PyData.strOk z = true) → PyData.canLayAll0 (zs.map PyData.str) = true
  | [], _ => rfl
  | z :: zs, h => by
    show (PyData.canLay0 (.str z) && PyData.canLayAll0 (zs.map PyData.str)) = true
    rw [lay_strs fun y hy => h y (List.mem_cons_of_mem _ hy), Bool.and_true]
    exact h z List.mem_cons_self
theorem dpt_strs : ∀ zs : List Str, PyData.depthAll (zs.map PyData.str) = 0
  | [] => rfl
  | z :: zs => by
    show PyData.depthAll (PyData.str z :: zs.map PyData.str) = 0
    simp only [PyData.depthAll, PyData.depth, dpt_strs zs]
    rfl
theorem sh_strs {zs : List Str} (h : ∀ z ∈ zs, PySem.PyData.strOk z = true) : SeqAt.shaped (.list (zs.map PyData.str)) = true := by
  unfold SeqAt.shaped
  have h1 : PyData.canLay0 (.list (zs.map PyData.str)) = true := lay_strs h
  have h2 : (PyData.list (zs.map PyData.str)).depth ≤ 64 := by
    simp only [PyData.depth, dpt_strs]
    decide
  rw [h1, decide_eq_true h2]
  rfl
theorem names_ok {dn : List Int} {Rs : List (Gang × Int)} (g : Good2 Rs) : (∀ z ∈ (partRs dn Rs).1.map (·.name), PySem.PyData.strOk z = true) ∧ (∀ z ∈ (partRs dn Rs).2.1.map (·.name), PySem.PyData.strOk z = true) := by
  refine ⟨fun z hz => ?_, fun z hz => ?_⟩
  · obtain ⟨G, hG, rfl⟩ := List.mem_map.mp hz
    obtain ⟨R, hR, rfl⟩ := partRs_mem (.inl hG)
    exact (g.fit R hR).name
  · obtain ⟨G, hG, rfl⟩ := List.mem_map.mp hz
    obtain ⟨R, hR, rfl⟩ := partRs_mem (.inr hG)
    exact (g.fit R hR).name
theorem sm_strs {H : Hp} {n : Nat} {p q : Addr} {zs : List Str} (h1 : H p = some (.lst (zs.map V.str))) (h2 : H q = some (.lst (zs.map V.str))) (hs : zs.length < 100000) : Sm H (n + 1) (.ref p) (.ref q) :=
  sm_lst h1 h2 (by rw [List.length_map]; exact hs) (prs_strs (fun z => sm_str z) zs)
theorem valV_get {κ : Type} [DecidableEq κ] : ∀ {ps : List (κ × V)} {i : Nat} {k : κ} {v : V}, (ps.map (·.1)).Nodup → ps[i]? = some (k, v) → valV ps k = some v
  | [], _, _, _, _, h => by simp at h
  | p :: ps, 0, k, v, _, h => by
    cases h
    exact valV_pos rfl
  | p :: ps, i + 1, k, v, nd, h => by
    have h' : ps[i]? = some (k, v) := by simpa using h
    rw [List.map_cons, List.nodup_cons] at nd
    rw [valV_neg fun z => nd.1 (List.mem_map.mpr ⟨(k, v), List.mem_of_getElem? h', z.symm⟩)]
    exact valV_get nd.2 h'
theorem valV_due {H : Hp} {ps : List (Key × V)} {kvs : List (Str × List Int)} (h : Paired (DueAt H) ps kvs) (nd : (kvs.map (·.1)).Nodup) {z : Str} (hz : z ∈ kvs.map (·.1)) : ∃ (a : Addr) (ns : List Int), valV ps (Sum.inr z) = some (.ref a) ∧ (z, ns) ∈ kvs ∧ H a = some (.tup (ns.map V.int)) := by
  obtain ⟨kv, hkv, rfl⟩ := List.mem_map.mp hz
  obtain ⟨i, hi⟩ := List.mem_iff_getElem?.mp hkv
  obtain ⟨p, hp, e, a, h1, h2⟩ := paired_get2 h hi
  have np : (ps.map (·.1)).Nodup := by
    rw [due_keys h]
    exact keys_nd nd
  have hp' : ps[i]? = some (Sum.inr kv.1, .ref a) := by
    rw [hp, ← e, ← h1]
  exact ⟨a, kv.2, valV_get np hp', hkv, h2⟩
theorem dgetR {H : Hp} {d : Addr} {ps : List (Key × V)} {z : Str} {v : V} (h : Rd H d (.dK ps)) (e : valV ps (Sum.inr z) = some v) : DGet H d (.str z) (some v) := .inl ⟨ps, Sum.inr z, h, rfl, e.symm⟩
end My

namespace My
open PySem PySem.W PySem.Spec PyProof.Rows L2 GX GxR
/-! the parting, further -/
/-- the own ones and the lent of a list, from a load on -/
def ownOf (dn : List Int) : List Gang → List Int → List Gang
  | [], _ => []
  | G :: Gs, ld => if fitB (addL ld G.whole) dn = true then G :: ownOf dn Gs (addL ld G.whole) else ownOf dn Gs ld
def lentOf (dn : List Int) : List Gang → List Int → List Gang
  | [], _ => []
  | G :: Gs, ld => if fitB (addL ld G.whole) dn = true then lentOf dn Gs (addL ld G.whole) else G :: lentOf dn Gs ld
def loadOf (dn : List Int) : List Gang → List Int → List Int
  | [], ld => ld
  | G :: Gs, ld => if fitB (addL ld G.whole) dn = true then loadOf dn Gs (addL ld G.whole) else loadOf dn Gs ld
theorem partA_eq (dn : List Int) : ∀ (Gs o l : List Gang) (ld : List Int), partA dn Gs o l ld = (o ++ ownOf dn Gs ld, l ++ lentOf dn Gs ld, loadOf dn Gs ld)
  | [], o, l, ld => by
    show (o, l, ld) = (o ++ [], l ++ [], ld)
    rw [List.append_nil, List.append_nil]
  | G :: Gs, o, l, ld => by
    unfold partA ownOf lentOf loadOf
    by_cases h : fitB (addL ld G.whole) dn = true
    · rw [if_pos h, if_pos h, if_pos h, if_pos h, partA_eq dn Gs, List.append_assoc]
      rfl
    · rw [if_neg h, if_neg h, if_neg h, if_neg h, partA_eq dn Gs, List.append_assoc]
      rfl
theorem partRs_eq (dn : List Int) (Rs : List (Gang × Int)) : partRs dn Rs = (ownOf dn ((ord Rs).map (·.1)) (zeros dn.length), lentOf dn ((ord Rs).map (·.1)) (zeros dn.length), loadOf dn ((ord Rs).map (·.1)) (zeros dn.length)) := by
  unfold partRs
  rw [partA_eq, List.nil_append, List.nil_append]
theorem own_sub (dn : List Int) : ∀ (Gs : List Gang) (ld : List Int), (ownOf dn Gs ld).Sublist Gs
  | [], _ => List.Sublist.refl _
  | G :: Gs, ld => by
    unfold ownOf
    split
    · exact (own_sub dn Gs _).cons₂ G
    · exact (own_sub dn Gs _).cons G
theorem lent_sub (dn : List Int) : ∀ (Gs : List Gang) (ld : List Int), (lentOf dn Gs ld).Sublist Gs
  | [], _ => List.Sublist.refl _
  | G :: Gs, ld => by
    unfold lentOf
    split
    · exact (lent_sub dn Gs _).cons G
    · exact (lent_sub dn Gs _).cons₂ G
def nm (Gs : List Gang) : List Str := Gs.map (·.name)
theorem nm_sub {Gs Hs : List Gang} (h : Gs.Sublist Hs) : (nm Gs).Sublist (nm Hs) := h.map _
/-- the names that are among the own ones, those that aren't -/
theorem filt_own {dn : List Int} : ∀ {Gs : List Gang} {ld : List Int}, (nm Gs).Nodup → (nm Gs).filter (fun z => decide (z ∈ nm (ownOf dn Gs ld))) = nm (ownOf dn Gs ld) ∧ (nm Gs).filter (fun z => !decide (z ∈ nm (ownOf dn Gs ld))) = nm (lentOf dn Gs ld)
  | [], _, _ => ⟨rfl, rfl⟩
  | G :: Gs, ld, nd => by
    have nd' : G.name ∉ nm Gs ∧ (nm Gs).Nodup := List.nodup_cons.mp nd
    unfold ownOf lentOf
    by_cases h : fitB (addL ld G.whole) dn = true
    · rw [if_pos h, if_pos h]
      obtain ⟨h1, h2⟩ := filt_own (dn := dn) (ld := addL ld G.whole) nd'.2
      have same : ∀ z ∈ nm Gs, (z ∈ nm (G :: ownOf dn Gs (addL ld G.whole))) ↔ z ∈ nm (ownOf dn Gs (addL ld G.whole)) := fun z hz => by
        refine ⟨fun q => ?_, fun q => List.mem_cons_of_mem _ q⟩
        rcases List.mem_cons.mp q with e | q
        · exact absurd (show G.name ∈ nm Gs from (show z = G.name from e) ▸ hz) nd'.1
        · exact q
      have e0 : decide (G.name ∈ nm (G :: ownOf dn Gs (addL ld G.whole))) = true := decide_eq_true List.mem_cons_self
      refine ⟨?_, ?_⟩
      · show (G.name :: nm Gs).filter _ = _
        rw [List.filter_cons_of_pos (p := fun z => decide (z ∈ nm (G :: ownOf dn Gs (addL ld G.whole)))) e0, List.filter_congr (q := fun z => decide (z ∈ nm (ownOf dn Gs (addL ld G.whole)))) (fun z hz => by simp only [same z hz]), h1]
        rfl
      · show (G.name :: nm Gs).filter _ = _
        rw [List.filter_cons_of_neg (p := fun z => !decide (z ∈ nm (G :: ownOf dn Gs (addL ld G.whole)))) (by rw [e0]; decide), List.filter_congr (q := fun z => !decide (z ∈ nm (ownOf dn Gs (addL ld G.whole)))) (fun z hz => by simp only [same z hz]), h2]
    · rw [if_neg h, if_neg h]
      obtain ⟨h1, h2⟩ := filt_own (dn := dn) (ld := ld) nd'.2
      have no : G.name ∉ nm (ownOf dn Gs ld) := fun q => nd'.1 ((nm_sub (own_sub dn Gs ld)).subset q)
      refine ⟨?_, ?_⟩
      · show (G.name :: nm Gs).filter _ = _
        rw [List.filter_cons_of_neg (p := fun z => decide (z ∈ nm (ownOf dn Gs ld))) (by rw [decide_eq_false no]; decide), h1]
      · show (G.name :: nm Gs).filter _ = _
        rw [List.filter_cons_of_pos (p := fun z => !decide (z ∈ nm (ownOf dn Gs ld))) (by rw [decide_eq_false no]; rfl), h2]
        rfl
/-- what some bear, ware by ware -/
def borneL (n : Nat) (Gs : List Gang) : List Int := (List.range n).map fun k => (Gs.map fun G => G.many * G.want.getD k 0).sum
theorem borne_nil (n : Nat) : borneL n [] = zeros n := by
  unfold borneL zeros
  apply List.ext_getElem?
  intro i
  rw [List.getElem?_map]
  by_cases h : i < n
  · rw [List.getElem?_range h, List.getElem?_replicate, if_pos h]
    rfl
  · rw [List.getElem?_eq_none (by rw [List.length_range]; omega), List.getElem?_replicate, if_neg h]
    rfl
theorem borne_snoc {n : Nat} {Gs : List Gang} {G : Gang} (h : G.want.length = n) : borneL n (Gs ++ [G]) = addL (borneL n Gs) G.whole := by
  unfold addL
  apply List.ext_getElem?
  intro i
  rw [List.getElem?_zipWith]
  unfold borneL Gang.whole
  rw [List.getElem?_map, List.getElem?_map, List.getElem?_map]
  by_cases hi : i < n
  · rw [List.getElem?_range hi, List.getElem?_eq_getElem (by omega)]
    have e : G.want.getD i 0 = G.want[i]'(by omega) := by
      rw [List.getD_eq_getElem?_getD, List.getElem?_eq_getElem (by omega)]
      rfl
    show some ((Gs ++ [G]).map fun G => G.many * G.want.getD i 0).sum = some ((Gs.map fun G => G.many * G.want.getD i 0).sum + G.want[i]'(by omega) * G.many)
    rw [List.map_append, List.sum_append]
    show some (_ + ([G.many * G.want.getD i 0] : List Int).sum) = _
    rw [e, List.sum_singleton, Int.mul_comm]
  · rw [List.getElem?_eq_none (by rw [List.length_range]; omega)]
    rfl
theorem borne_len (n : Nat) (Gs : List Gang) : (borneL n Gs).length = n := by
  unfold borneL
  rw [List.length_map, List.length_range]
/-- own ones alone are own -/
theorem own_own (dn : List Int) : ∀ (Gs : List Gang) (ld : List Int), ownOf dn (ownOf dn Gs ld) ld = ownOf dn Gs ld ∧ lentOf dn (ownOf dn Gs ld) ld = []
  | [], _ => ⟨rfl, rfl⟩
  | G :: Gs, ld => by
    by_cases h : fitB (addL ld G.whole) dn = true
    · have e : ownOf dn (G :: Gs) ld = G :: ownOf dn Gs (addL ld G.whole) := by
        show (if _ then _ else _) = _
        rw [if_pos h]
      obtain ⟨h1, h2⟩ := own_own dn Gs (addL ld G.whole)
      rw [e]
      refine ⟨?_, ?_⟩
      · show (if _ then _ else _) = _
        rw [if_pos h, h1]
      · show (if _ then _ else _) = _
        rw [if_pos h, h2]
    · have e : ownOf dn (G :: Gs) ld = ownOf dn Gs ld := by
        show (if _ then _ else _) = _
        rw [if_neg h]
      rw [e]
      exact own_own dn Gs ld
theorem own_app (dn : List Int) : ∀ (Gs Hs : List Gang) (ld : List Int), ownOf dn (Gs ++ Hs) ld = ownOf dn Gs ld ++ ownOf dn Hs (loadOf dn Gs ld) ∧ lentOf dn (Gs ++ Hs) ld = lentOf dn Gs ld ++ lentOf dn Hs (loadOf dn Gs ld) ∧ loadOf dn (Gs ++ Hs) ld = loadOf dn Hs (loadOf dn Gs ld)
  | [], Hs, ld => ⟨rfl, rfl, rfl⟩
  | G :: Gs, Hs, ld => by
    rw [List.cons_append]
    by_cases h : fitB (addL ld G.whole) dn = true
    · obtain ⟨h1, h2, h3⟩ := own_app dn Gs Hs (addL ld G.whole)
      simp only [ownOf, lentOf, loadOf, if_pos h, h1, h2, h3, List.cons_append, true_and]
    · obtain ⟨h1, h2, h3⟩ := own_app dn Gs Hs ld
      simp only [ownOf, lentOf, loadOf, if_neg h, h1, h2, h3, List.cons_append, true_and]
theorem load_fits (dn : List Int) : ∀ (Gs : List Gang) (ld : List Int), fitB ld dn = true → fitB (loadOf dn Gs ld) dn = true
  | [], _, h => h
  | G :: Gs, ld, h => by
    unfold loadOf
    split
    · exact load_fits dn Gs _ (by assumption)
    · exact load_fits dn Gs _ h
theorem fits_zero {dn : List Int} (h : Amt dn) : fitB (zeros dn.length) dn = true := by
  induction dn with
  | nil => rfl
  | cons d dn ih =>
    have h1 := (h d List.mem_cons_self).1
    have h2 := ih fun x hx => h x (List.mem_cons_of_mem _ hx)
    unfold fitB zeros at *
    rw [List.length_cons, List.replicate_succ, List.zipWith_cons_cons, List.all_cons, h2, Bool.and_true]
    exact decide_eq_true h1
/-- the order of some of the rows -/
theorem ord_filter {Rs : List (Gang × Int)} (h : (Rs.map (·.2)).Nodup) (p : Gang × Int → Bool) : ord (Rs.filter p) = (ord Rs).filter p :=
  (ord_of ((List.Sublist.map (·.2) (List.filter_sublist (p := p) (l := Rs))).nodup h) ((ord_perm Rs).filter p) ((ord_sorted Rs).sublist List.filter_sublist)).symm
theorem ord_take {Rs : List (Gang × Int)} (n : Nat) : ord ((ord Rs).take n) = (ord Rs).take n := List.mergeSort_of_pairwise ((ord_sorted Rs).sublist (List.take_sublist n _))
end My

namespace My
open PySem PySem.W PySem.Spec PyProof.Rows L2
section
variable {X : Cx}
/-- picked values are values that were there -/
theorem pick_vals {xs : List V} {its : List Value} (rv : Vals xs its) : ∀ js : List Nat, ∃ ys : List V, Vals ys (js.filterMap (its.toArray[·]?)) ∧ ∀ y ∈ ys, y ∈ xs
  | [] => ⟨[], .nil, fun _ h => nomatch h⟩
  | j :: js => by
    obtain ⟨ys, h1, h2⟩ := pick_vals rv js
    cases e : xs[j]? with
    | none =>
      have e2 : its.toArray[j]? = none := by
        have := rv.none_of e
        simpa using this
      exact ⟨ys, by rw [List.filterMap_cons_none e2]; exact h1, h2⟩
    | some x =>
      obtain ⟨u, hu, ru⟩ := rv.get e
      have e2 : its.toArray[j]? = some u := by simpa using hu
      refine ⟨x :: ys, by rw [List.filterMap_cons_some e2]; exact .cons ru h1, fun y hy => ?_⟩
      rcases List.mem_cons.mp hy with z | z
      · rw [z]
        exact List.mem_of_getElem? e
      · exact h2 y z
/-- xs[::n] -/
def stepR (K : PySem.W.Frag) (a : Addr) (xs : List V) (Q : VK) (i : Int) (H : Hp) : Prop := i ≠ 0 ∧ SqL K H a xs ∧ ∀ p ys, H p = none → ys.length ≤ xs.length → (∀ y ∈ ys, y ∈ xs) → Q (.ref p) (upd H p (.lst ys))
def stepO (K : PySem.W.Frag) (a : Addr) (xs : List V) (Q : VK) : Option Int → Hp → Prop
  | some i, H => stepR K a xs Q i H
  | none, _ => False
def tStepL (K : PySem.W.Frag) (te ts : TE) : TE := fun σ H Q => te σ H fun x H1 => ∃ a xs, x = .ref a ∧ ts σ H1 fun y H2 => ∃ i : Int, y = .int i ∧ stepR K a xs Q i H2
theorem pe_stepL {e est : Expr} {te ts : TE} {p3 pos : Pos} (he : PE X e te) (hs : PE X est ts) : PE X (.Subscript e (.Slice none none (some est) p3) pos) (tStepL X.K te ts) := by
  refine ⟨fun pins s σ H Q I h => ?_⟩
  refine Subscript_ (thn (he.run pins s σ H _ I h) fun v s1 ⟨x, H1, I1, r1, a, xs, ex, q1⟩ => ?_)
  subst ex
  cases r1
  refine wpAny_Slice (thn (po_none.run pins s1 σ H1 (fun o Hn => o = none ∧ Hn = H1) I1 ⟨rfl, rfl⟩) fun vl s2 ⟨lo, H2, I2, pl, elo, e2⟩ => ?_)
  subst elo e2
  refine thn (po_none.run pins s2 σ H2 (fun o Hn => o = none ∧ Hn = H2) I2 ⟨rfl, rfl⟩) fun vu s3 ⟨hi, H3, I3, pu, ehi, e3⟩ => ?_
  subst ehi e3
  refine thn ((po_some hs).run pins s3 σ H3 (stepO X.K a xs Q) I3 q1) fun vst s4 ⟨st, H4, I4, pst, q4⟩ => ?_
  cases st with
  | none => exact q4.elim
  | some i =>
    obtain ⟨i0, hx, q⟩ := q4
    have kp : ∀ b ob, s4.heap.get? b = some ob → (s4.heap.push { cls := .type "slice", data := .fields #[vl, vu, vst] }).get? b = some ob := fun b ob z => Heap.get?_push_of_some _ z
    have I5 := I4.kept (t' := s4.toks) kp
    obtain ⟨its, rv, pl5, hz⟩ := I5.list hx
    have hlen := rv.length
    have hsz : its.toArray.size ≤ sizeLine := by
      rw [List.size_toArray]
      omega
    refine tail_any (ops := [.ref a, .ref s4.heap.objs.size]) pl5.isList.typeIs slot_list_getitem.lookup ?_ (by with_unfolding_all rfl)
    refine wpAny_getItem_list_slice pl5.isList (Heap.IsSliceOf.new _ vl vu vst) pl pu pst (fun z => i0 (Option.some.inj z)) ?_ hsz
    have ls := slicePick_size_le its.toArray none none (some i)
    obtain ⟨ys, y1, y2⟩ : ∃ ys : List V, Vals ys (slicePick its.toArray none none (some i)).toList ∧ ∀ y ∈ ys, y ∈ xs := by
      unfold slicePick
      exact pick_vals rv _
    have ly : ys.length ≤ xs.length := by
      have l1 := y1.length
      have l2 : (slicePick its.toArray none none (some i)).toList.length = (slicePick its.toArray none none (some i)).size := Array.length_toList
      have sz : its.toArray.size = its.length := List.size_toArray
      omega
    refine ⟨.ref _, _, I5.laid (t' := s4.toks) (o := .lst ys) (fun b ob z => Heap.get?_push_of_some _ z) (Nat.le_refl _) ⟨by omega, _, 0, y1, ?_⟩, rfl, q _ ys (I5.hok.fresh (Nat.le_refl _)) ly y2⟩
    exact Heap.get?_push_size _ rfl
/-- max(xs, default=d), xs a list of whole numbers -/
def rMaxD (K : PySem.W.Frag) : List V → List V → Hp → VK → Prop := fun vs zs H Q => ∃ (a : Addr) (ns : List Int) (d : V), vs = [.ref a] ∧ zs = [d] ∧ SqL K H a (ns.map V.int) ∧ (ns = [] → Q d H) ∧ ∀ m, m ∈ ns → (∀ y ∈ ns, y ≤ m) → Q (.int m) H
theorem read_ints {h : Heap} : ∀ (ns : List Int) (us : List Value), Vals (ns.map V.int) us → ReadsAll h us (ns.map PyData.int) []
  | [], _, .nil => .nil
  | n :: ns, _, .cons r t => by
    obtain ⟨k, rfl⟩ := r
    exact .cons (as := []) (bs := []) (.int n k) (read_ints ns _ t)
theorem cr_maxD (hc : X.calm = true) (hu : X.A.units + 1 < cLine) : CallRK X (.builtin "max") ["default"] (rMaxD X.K) := by
  intro pins s σ H xs zs us ws Q I r1 r2 h
  obtain ⟨a, ns, d, rfl, rfl, hq, q0, q1⟩ := h
  obtain ⟨u, rfl, ru⟩ := vals1 r1
  obtain ⟨u2, rfl, ru2⟩ := vals1 r2
  obtain rfl : u = Value.ref a := ru
  obtain ⟨its, rv, pl, _⟩ := I.list hq
  refine PySem.W.max_list_default (xs := ns.map PyData.int) (as := []) (I.ok.hd hc) pl.isList (read_ints ns its rv) ⟨fun x hx y hy => ?_, fun x hx => ?_⟩ (by rw [PySem.W.ke_depthAll]; exact hu) (fun e h' tk kp => ?_) (fun y ys i v h' tk bs e hv hr kp => ?_)
  · obtain ⟨i, _, rfl⟩ := List.mem_map.mp hx
    obtain ⟨j, _, rfl⟩ := List.mem_map.mp hy
    rfl
  · obtain ⟨i, _, rfl⟩ := List.mem_map.mp hx
    exact fun z => nomatch z
  · have e2 : ns = [] := by
      cases ns with
      | nil => rfl
      | cons _ _ => cases e
    exact ⟨d, H, I.kept kp, ru2, q0 e2⟩
  · cases ns with
    | nil => cases e
    | cons n r =>
      rw [List.map_cons] at e
      injection e with z1 z2
      subst z1 z2
      rw [PySem.W.maxD_ints] at hr
      obtain ⟨t, rfl⟩ : ∃ t, v = Value.int (r.foldl max n) t := by
        cases hr
        exact ⟨_, rfl⟩
      obtain ⟨g1, g2, g3⟩ := GX.fold_max n r
      refine ⟨.int (r.foldl max n), H, I.kept kp, ⟨t, rfl⟩, q1 _ ?_ fun y hy => ?_⟩
      · rcases g1 with z | z
        · rw [z]
          exact List.mem_cons_self
        · exact List.mem_cons_of_mem _ z
      · rcases List.mem_cons.mp hy with z | z
        · rw [z]
          exact g2
        · exact g3 y z
end
end My

namespace My
open PySem PySem.W PySem.Spec PyProof.Rows L2 GX GxR
/-! one more gang, of the greatest number -/
def aboveOf (r : Int) (Rs : List (Gang × Int)) : List (Gang × Int) := Rs.filter fun R => decide (r ≤ R.1.rank)
def belowOf (r : Int) (Rs : List (Gang × Int)) : List (Gang × Int) := Rs.filter fun R => !decide (r ≤ R.1.rank)
def owedB (dn : List Int) (Rs : List (Gang × Int)) (G : Gang) : Bool := fitB (addL (partRs dn Rs).2.2 G.whole) dn
def ownB (dn : List Int) (Rs : List (Gang × Int)) (G : Gang) : Bool := owedB dn (aboveOf G.rank Rs) G
theorem ord_one {Rs : List (Gang × Int)} {G : Gang} {n : Int} (nd : (Rs.map (·.2)).Nodup) (hn : ∀ R ∈ Rs, R.2 < n) : ord (Rs ++ [(G, n)]) = ord (aboveOf G.rank Rs) ++ (G, n) :: ord (belowOf G.rank Rs) := by
  have nd2 : ((Rs ++ [(G, n)]).map (·.2)).Nodup := by
    rw [List.map_append, List.nodup_append]
    refine ⟨nd, List.pairwise_singleton _ _, fun a ha b hb z => ?_⟩
    obtain ⟨R, hR, rfl⟩ := List.mem_map.mp ha
    have := hn R hR
    have hb' : b = n := List.mem_singleton.mp hb
    omega
  refine (ord_of nd2 ?_ ?_).symm
  · have h1 : (aboveOf G.rank Rs ++ belowOf G.rank Rs).Perm Rs := List.filter_append_perm _ Rs
    have h2 := (ord_perm (aboveOf G.rank Rs)).append (ord_perm (belowOf G.rank Rs))
    exact (List.perm_middle.trans ((List.Perm.cons _ (h2.trans h1)))).trans (List.perm_append_comm (l₁ := [(G, n)]))
  · rw [List.pairwise_append]
    refine ⟨ord_sorted _, List.pairwise_cons.mpr ⟨fun b hb => ?_, ord_sorted _⟩, fun a ha b hb => ?_⟩
    · have hb' := (List.mem_filter.mp ((ord_perm _).mem_iff.mp hb)).2
      unfold rowLe
      simp only [Bool.not_eq_true', decide_eq_false_iff_not] at hb'
      rw [decide_eq_true_eq]
      show -G.rank < -b.1.rank ∨ _
      omega
    · obtain ⟨ha1, ha2⟩ := List.mem_filter.mp ((ord_perm _).mem_iff.mp ha)
      have ha3 : G.rank ≤ a.1.rank := of_decide_eq_true ha2
      have ha4 := hn a ha1
      unfold rowLe
      rw [decide_eq_true_eq]
      rcases List.mem_cons.mp hb with z | z
      · rw [z]
        show -a.1.rank < -G.rank ∨ (-a.1.rank = -G.rank ∧ a.2 ≤ n)
        omega
      · have hb' := (List.mem_filter.mp ((ord_perm _).mem_iff.mp z)).2
        simp only [Bool.not_eq_true', decide_eq_false_iff_not] at hb'
        omega
theorem own_mem {dn : List Int} {A B : List Gang} {G : Gang} {ld : List Int} (h : G.name ∉ nm A) (h' : G.name ∉ nm B) : G.name ∈ nm (ownOf dn (A ++ G :: B) ld) ↔ fitB (addL (loadOf dn A ld) G.whole) dn = true := by
  rw [(own_app dn A (G :: B) ld).1]
  unfold nm
  rw [List.map_append, List.mem_append]
  have h1 : G.name ∉ nm (ownOf dn A ld) := fun z => h ((nm_sub (own_sub dn A ld)).subset z)
  have h2 : ∀ ld, G.name ∉ nm (ownOf dn B ld) := fun ld z => h' ((nm_sub (own_sub dn B ld)).subset z)
  show G.name ∈ nm _ ∨ G.name ∈ nm _ ↔ _
  by_cases f : fitB (addL (loadOf dn A ld) G.whole) dn = true
  · refine ⟨fun _ => f, fun _ => .inr ?_⟩
    have e : ownOf dn (G :: B) (loadOf dn A ld) = G :: ownOf dn B (addL (loadOf dn A ld) G.whole) := by
      show (if _ then _ else _) = _
      rw [if_pos f]
    rw [e]
    exact List.mem_cons_self
  · refine ⟨fun z => ?_, fun z => absurd z f⟩
    have e : ownOf dn (G :: B) (loadOf dn A ld) = ownOf dn B (loadOf dn A ld) := by
      show (if _ then _ else _) = _
      rw [if_neg f]
    rw [e] at z
    rcases z with z | z
    · exact absurd z h1
    · exact absurd z (h2 _)
theorem ownB_eq {dn : List Int} {Rs : List (Gang × Int)} {G : Gang} {n : Int} (nd : (Rs.map (·.2)).Nodup) (hn : ∀ R ∈ Rs, R.2 < n) (no : ∀ R ∈ Rs, R.1.name ≠ G.name) : decide (G.name ∈ (partRs dn (Rs ++ [(G, n)])).1.map (·.name)) = ownB dn Rs G := by
  have off : ∀ p : Gang × Int → Bool, G.name ∉ nm ((ord (Rs.filter p)).map (·.1)) := fun p z => by
    obtain ⟨F, hF, e⟩ := List.mem_map.mp z
    obtain ⟨R, hR, rfl⟩ := List.mem_map.mp hF
    exact no R (List.mem_filter.mp ((ord_perm _).mem_iff.mp hR)).1 e
  have e : (partRs dn (Rs ++ [(G, n)])).1 = ownOf dn ((ord (aboveOf G.rank Rs)).map (·.1) ++ G :: (ord (belowOf G.rank Rs)).map (·.1)) (zeros dn.length) := by
    rw [partRs_eq, ord_one nd hn, List.map_append]
    rfl
  have h := own_mem (dn := dn) (ld := zeros dn.length) (off fun R => decide (G.rank ≤ R.1.rank)) (off fun R => !decide (G.rank ≤ R.1.rank))
  have hb : ownB dn Rs G = fitB (addL (loadOf dn ((ord (aboveOf G.rank Rs)).map (·.1)) (zeros dn.length)) G.whole) dn := by
    unfold ownB owedB
    rw [partRs_eq]
  rw [e, hb]
  cases f : fitB (addL (loadOf dn ((ord (aboveOf G.rank Rs)).map (·.1)) (zeros dn.length)) G.whole) dn with
  | true => exact decide_eq_true (h.mpr f)
  | false =>
    refine decide_eq_false fun z => ?_
    have q := h.mp z
    have f' : fitB (addL (loadOf dn ((ord (Rs.filter fun R => decide (G.rank ≤ R.1.rank))).map (·.1)) (zeros dn.length)) G.whole) dn = false := f
    rw [f'] at q
    cases q
/-! texts among texts -/
theorem inV_strs (z : Str) : ∀ zs : List Str, inV (.str z) (zs.map V.str) = decide (z ∈ zs)
  | [] => by simp [inV]
  | y :: zs => by
    have ih := inV_strs z zs
    unfold inV at ih ⊢
    rw [List.map_cons, List.any_cons, ih]
    by_cases h : y = z
    · subst h
      simp [eqV]
    · have h' : ¬ z = y := fun q => h q.symm
      simp [eqV, h, h']
theorem flat_strs (zs : List Str) : (zs.map V.str).all flatV = true := by
  rw [List.all_eq_true]
  intro x hx
  obtain ⟨z, _, rfl⟩ := List.mem_map.mp hx
  rfl
/-! gangs as data -/
theorem sh_gang {G : Gang} {n : Int} (f : Fit (G, n)) : SeqAt.shaped (gangD G) = true := by
  unfold SeqAt.shaped
  have h1 : PyData.canLay0 (gangD G) = true := by
    have a := f.name
    have b := f.guild
    have c := f.how
    simp only at a b c
    simp [gangD, PyData.canLay0, PyData.canLayAll0, a, b, c, lay_ints]
  have h2 : (gangD G).depth = 2 := by simp [gangD, PyData.depth, PyData.depthAll, dpt_ints]
  rw [h1, h2]
  rfl
theorem eqv_gname {G G' : Gang} (h : PyData.eqv (gangD G) (gangD G') = true) : G.name = G'.name := by
  simp only [gangD, PyData.eqv, PyData.eqvAll, Bool.and_eq_true] at h
  exact eq_of_beq h.1
theorem eqv_gang {G : Gang} {n : Int} (f : Fit (G, n)) : PyData.eqv (gangD G) (gangD G) = true := SeqAt.eqv_refl_plain _ (shaped_plain (sh_gang f))
/-! promises -/
structure GIn (H : Hp) (dn : List Int) (g : Addr) (G : Gang) : Prop where
  at_ : GangAt H g G
  fit : Fit (G, 0)
  wlen : G.want.length = dn.length
def spOwed (K : PySem.W.Frag) (Ts : List Addr) : Sp := fun vs H Q _ => ∃ (du a g : Addr) (dn : List Int) (as : List Addr) (Rs : List (Gang × Int)) (G : Gang), vs = [.ref du, .ref a, .ref g] ∧ PIn K H du a dn as Rs ∧ GIn H dn g G ∧ Tabs Ts H ∧ ∀ H', Fw Ts H H' → Q (.bl (owedB dn Rs G)) H'
def spOwnW (K : PySem.W.Frag) (Ts : List Addr) : Sp := fun vs H Q _ => ∃ (du a g : Addr) (dn : List Int) (as : List Addr) (Rs : List (Gang × Int)) (G : Gang), vs = [.ref du, .ref a, .ref g] ∧ PIn K H du a dn as Rs ∧ GIn H dn g G ∧ Rs.length ≤ 90 ∧ (∀ R ∈ Rs, R.1.name ≠ G.name) ∧ Tabs Ts H ∧ ∀ H', Fw Ts H H' → Q (.bl (ownB dn Rs G)) H'
def spLFit (K : PySem.W.Frag) : Sp := fun vs H Q _ => ∃ (du b g : Addr) (dn ld : List Int) (G : Gang), vs = [.ref du, .ref b, .ref g] ∧ SqT K H du (dn.map V.int) ∧ dn.length ≤ 8 ∧ H b = some (.lst (ld.map V.int)) ∧ ld.length = dn.length ∧ GIn H dn g G ∧ ∀ H', Same H H' → Q (.bl (fitB (addL ld G.whole) dn)) H'
theorem GIn.kt {H H' : Hp} {dn : List Int} {g : Addr} {G : Gang} (k : KTu H H') (h : GIn H dn g G) : GIn H' dn g G := ⟨h.at_.kt k, h.fit, h.wlen⟩
theorem part_llen {dn : List Int} : ∀ (Gs : List Gang) (ld : List Int), (∀ G ∈ Gs, G.want.length = dn.length) → ld.length = dn.length → (loadOf dn Gs ld).length = dn.length
  | [], _, _, h => h
  | G :: Gs, ld, hw, h => by
    unfold loadOf
    split
    · exact part_llen Gs _ (fun F hF => hw F (List.mem_cons_of_mem _ hF)) (by rw [addL_len (by rw [whole_len, hw G List.mem_cons_self, h]), h])
    · exact part_llen Gs _ (fun F hF => hw F (List.mem_cons_of_mem _ hF)) h
theorem load_len {dn : List Int} {Rs : List (Gang × Int)} (hw : ∀ R ∈ Rs, R.1.want.length = dn.length) : (partRs dn Rs).2.2.length = dn.length := by
  rw [partRs_eq]
  refine part_llen _ _ (fun G hG => ?_) (by unfold zeros; rw [List.length_replicate])
  obtain ⟨R, hR, rfl⟩ := List.mem_map.mp hG
  exact hw R ((ord_perm Rs).mem_iff.mp hR)
/-- the rows and one more -/
theorem good_one {Rs : List (Gang × Int)} {G : Gang} {n : Int} (g : Good2 Rs) (f : Fit (G, n)) (hl : Rs.length ≤ 90) (hn : ∀ R ∈ Rs, R.2 < n) (no : ∀ R ∈ Rs, R.1.name ≠ G.name) : Good2 (Rs ++ [(G, n)]) := by
  refine ⟨fun R hR => ?_, ?_, ?_, by rw [List.length_append]; show Rs.length + 1 ≤ 100; omega⟩
  · rcases List.mem_append.mp hR with z | z
    · exact g.fit R z
    · rw [List.mem_singleton.mp z]
      exact f
  · rw [List.map_append, List.nodup_append]
    refine ⟨g.names, List.pairwise_singleton _ _, fun a ha b hb z => ?_⟩
    obtain ⟨R, hR, rfl⟩ := List.mem_map.mp ha
    have hb' : b = G.name := List.mem_singleton.mp hb
    exact no R hR (z.trans hb')
  · rw [List.map_append, List.nodup_append]
    refine ⟨g.nums, List.pairwise_singleton _ _, fun a ha b hb z => ?_⟩
    obtain ⟨R, hR, rfl⟩ := List.mem_map.mp ha
    have := hn R hR
    have hb' : b = n := List.mem_singleton.mp hb
    omega
end My

namespace My
open PySem PySem.Spec PyProof.Rows L2 GX GxR
theorem names3 {K : PySem.W.Frag} {neg : Bool} {i : Nat} {l o : Addr} {zs ys : List Str} {x0 x1 x2 x4 x5 x6 x7 x8 x9 x10 x11 x12 x13 x14 : Option V} {H : Hp} {Q : VK} (hi : ([x0, x1, x2, some (.ref o), x4, x5, x6, x7, x8, x9, x10, x11, x12, x13, x14] : L2.St)[i]? = some (some (.ref l)))
    (el : H l = some (.lst (zs.map V.str))) (eo : H o = some (.lst (ys.map V.str))) (hz : zs.length ≤ 100)
    (q : ∀ D H', Same H H' → H D = none → H' D = some (.lst ((zs.filter fun z => if neg then !decide (z ∈ ys) else decide (z ∈ ys)).map V.str)) → Q (.ref D) H') :
    tLc (iList K (tVar i)) (gName 12) (tTest (tOp (rIn K neg) (tVar 12) (tVar 3))) (tVar 12) [12] [x0, x1, x2, some (.ref o), x4, x5, x6, x7, x8, x9, x10, x11, x12, x13, x14] H Q := by
  have ef : (fun z => if neg then !decide (z ∈ ys) else decide (z ∈ ys)) = fun z => if neg then !inV (.str z) (ys.map V.str) else inV (.str z) (ys.map V.str) := by
    funext z
    rw [inV_strs]
  rw [ef] at q
  refine ⟨_, hi, l, rfl, ⟨_, SqL.of el⟩, fun D nD => ?_⟩
  refine lc_list (K := K) (a := l) (xs := zs.map V.str) (fun j H' => Same H H' ∧ H' D = some (.lst (((zs.take j).filter fun z => if neg then !inV (.str z) (ys.map V.str) else inV (.str z) (ys.map V.str)).map V.str)))
    ⟨same_upd nD, upd_same⟩ (fun j H' _ p => SqL.of (p.1 _ _ el)) (fun j x H2 hx p => ?_) (fun H2 p => ?_)
  · obtain ⟨p1, p2⟩ := p
    rw [List.getElem?_map] at hx
    obtain ⟨z, hz', rfl⟩ := Option.map_eq_some_iff.mp hx
    have hj : j < zs.length := (List.getElem?_eq_some_iff.mp hz').1
    refine ⟨rfl, ?_⟩
    refine ⟨_, rfl, _, rfl, o, _, rfl, .inl (SqL.of (p1 _ _ eo)), rfl, flat_strs _, _, rfl, ite2 (fun e => ?_) (fun e => ?_)⟩
    · refine ⟨_, rfl, _, p2, ?_, same_put p1 nD, ?_⟩
      · rw [List.length_map]
        have h1 := List.length_filter_le (fun z => if neg then !inV (.str z) (ys.map V.str) else inV (.str z) (ys.map V.str)) (zs.take j)
        rw [List.length_take] at h1
        exact small63 (by omega)
      · rw [upd_same, List.take_add_one, hz', List.filter_append, Option.toList_some, List.filter_cons_of_pos (p := fun z => if neg then !inV (.str z) (ys.map V.str) else inV (.str z) (ys.map V.str)) e, List.map_append]
        rfl
    · refine ⟨p1, ?_⟩
      rw [List.take_add_one, hz', List.filter_append, Option.toList_some, List.filter_cons_of_neg (p := fun z => if neg then !inV (.str z) (ys.map V.str) else inV (.str z) (ys.map V.str)) e, List.filter_nil, List.append_nil]
      exact p2
  · obtain ⟨p1, p2⟩ := p
    rw [List.length_map, List.take_of_length_le (Nat.le_refl _)] at p2
    exact q D H2 p1 nD p2
theorem names10 {K : PySem.W.Frag} {neg : Bool} {i : Nat} {l o : Addr} {zs ys : List Str} {x0 x1 x2 x3 x4 x5 x6 x7 x8 x9 x11 x12 x13 x14 : Option V} {H : Hp} {Q : VK} (hi : ([x0, x1, x2, x3, x4, x5, x6, x7, x8, x9, some (.ref o), x11, x12, x13, x14] : L2.St)[i]? = some (some (.ref l)))
    (el : H l = some (.lst (zs.map V.str))) (eo : H o = some (.lst (ys.map V.str))) (hz : zs.length ≤ 100)
    (q : ∀ D H', Same H H' → H D = none → H' D = some (.lst ((zs.filter fun z => if neg then !decide (z ∈ ys) else decide (z ∈ ys)).map V.str)) → Q (.ref D) H') :
    tLc (iList K (tVar i)) (gName 12) (tTest (tOp (rIn K neg) (tVar 12) (tVar 10))) (tVar 12) [12] [x0, x1, x2, x3, x4, x5, x6, x7, x8, x9, some (.ref o), x11, x12, x13, x14] H Q := by
  have ef : (fun z => if neg then !decide (z ∈ ys) else decide (z ∈ ys)) = fun z => if neg then !inV (.str z) (ys.map V.str) else inV (.str z) (ys.map V.str) := by
    funext z
    rw [inV_strs]
  rw [ef] at q
  refine ⟨_, hi, l, rfl, ⟨_, SqL.of el⟩, fun D nD => ?_⟩
  refine lc_list (K := K) (a := l) (xs := zs.map V.str) (fun j H' => Same H H' ∧ H' D = some (.lst (((zs.take j).filter fun z => if neg then !inV (.str z) (ys.map V.str) else inV (.str z) (ys.map V.str)).map V.str)))
    ⟨same_upd nD, upd_same⟩ (fun j H' _ p => SqL.of (p.1 _ _ el)) (fun j x H2 hx p => ?_) (fun H2 p => ?_)
  · obtain ⟨p1, p2⟩ := p
    rw [List.getElem?_map] at hx
    obtain ⟨z, hz', rfl⟩ := Option.map_eq_some_iff.mp hx
    have hj : j < zs.length := (List.getElem?_eq_some_iff.mp hz').1
    refine ⟨rfl, ?_⟩
    refine ⟨_, rfl, _, rfl, o, _, rfl, .inl (SqL.of (p1 _ _ eo)), rfl, flat_strs _, _, rfl, ite2 (fun e => ?_) (fun e => ?_)⟩
    · refine ⟨_, rfl, _, p2, ?_, same_put p1 nD, ?_⟩
      · rw [List.length_map]
        have h1 := List.length_filter_le (fun z => if neg then !inV (.str z) (ys.map V.str) else inV (.str z) (ys.map V.str)) (zs.take j)
        rw [List.length_take] at h1
        exact small63 (by omega)
      · rw [upd_same, List.take_add_one, hz', List.filter_append, Option.toList_some, List.filter_cons_of_pos (p := fun z => if neg then !inV (.str z) (ys.map V.str) else inV (.str z) (ys.map V.str)) e, List.map_append]
        rfl
    · refine ⟨p1, ?_⟩
      rw [List.take_add_one, hz', List.filter_append, Option.toList_some, List.filter_cons_of_neg (p := fun z => if neg then !inV (.str z) (ys.map V.str) else inV (.str z) (ys.map V.str)) e, List.filter_nil, List.append_nil]
      exact p2
  · obtain ⟨p1, p2⟩ := p
    rw [List.length_map, List.take_of_length_le (Nat.le_refl _)] at p2
    exact q D H2 p1 nD p2

theorem sub_filter : ∀ {ow Gs : List Gang}, ow.Sublist Gs → (nm Gs).Nodup → Gs.filter (fun G => decide (G.name ∈ nm ow)) = ow
  | _, _, .slnil, _ => rfl
  | ow, G :: Gs, .cons _ h, nd => by
    have nd' := List.nodup_cons.mp (show (G.name :: nm Gs).Nodup from nd)
    have no : ¬ (decide (G.name ∈ nm ow)) = true := fun z => nd'.1 ((nm_sub h).subset (of_decide_eq_true z))
    rw [List.filter_cons_of_neg (p := fun G' : Gang => decide (G'.name ∈ nm ow)) no]
    exact sub_filter h nd'.2
  | _, G :: Gs, .cons₂ (l₁ := ow) _ h, nd => by
    have nd' := List.nodup_cons.mp (show (G.name :: nm Gs).Nodup from nd)
    have yes : (decide (G.name ∈ nm (G :: ow))) = true := decide_eq_true (show G.name ∈ G.name :: nm ow from List.mem_cons_self)
    rw [List.filter_cons_of_pos (p := fun G' : Gang => decide (G'.name ∈ nm (G :: ow))) yes]
    have e : Gs.filter (fun G' => decide (G'.name ∈ nm (G :: ow))) = Gs.filter (fun G' => decide (G'.name ∈ nm ow)) := by
      refine List.filter_congr fun G' hG' => ?_
      have ne : G'.name ≠ G.name := fun z => nd'.1 (by rw [← z]; exact List.mem_map.mpr ⟨G', hG', rfl⟩)
      show decide (G'.name ∈ G.name :: nm ow) = _
      by_cases hm : G'.name ∈ nm ow
      · rw [decide_eq_true hm, decide_eq_true (List.mem_cons_of_mem _ hm)]
      · rw [decide_eq_false hm, decide_eq_false fun z => (List.mem_cons.mp z).elim ne hm]
    rw [e, sub_filter h nd'.2]
theorem own_one (dn : List Int) (Gs : List Gang) (G : Gang) (ld : List Int) : ownOf dn (Gs ++ [G]) ld = ownOf dn Gs ld ++ (if fitB (addL (loadOf dn Gs ld) G.whole) dn = true then [G] else []) ∧ loadOf dn (Gs ++ [G]) ld = if fitB (addL (loadOf dn Gs ld) G.whole) dn = true then addL (loadOf dn Gs ld) G.whole else loadOf dn Gs ld := by
  obtain ⟨h1, h2, h3⟩ := own_app dn Gs [G] ld
  rw [h1, h3]
  refine ⟨?_, ?_⟩
  · congr 1
  · rw [loadOf]
    split <;> rfl
theorem take_borne {dn : List Int} {Gs : List Gang} (hw : ∀ G ∈ Gs, G.want.length = dn.length) : ∀ i, borneL dn.length (ownOf dn (Gs.take i) (zeros dn.length)) = loadOf dn (Gs.take i) (zeros dn.length)
  | 0 => by
    rw [List.take_zero]
    exact borne_nil _
  | i + 1 => by
    rw [List.take_add_one]
    cases hG : Gs[i]? with
    | none =>
      rw [Option.toList_none, List.append_nil]
      exact take_borne hw i
    | some G =>
      rw [Option.toList_some]
      obtain ⟨h1, h2⟩ := own_one dn (Gs.take i) G (zeros dn.length)
      rw [h1, h2]
      have ih := take_borne hw i
      split
      · rw [borne_snoc (hw G (List.mem_of_getElem? hG)), ih]
      · rw [List.append_nil, ih]
theorem all_borne {dn : List Int} {Gs : List Gang} (hw : ∀ G ∈ Gs, G.want.length = dn.length) : borneL dn.length (ownOf dn Gs (zeros dn.length)) = loadOf dn Gs (zeros dn.length) := by
  have h := take_borne hw Gs.length
  rw [List.take_length] at h
  exact h
/-- the names told of the first m -/
theorem filt_take {m : Nat} {Gs As Bs : List Gang} (nd : (nm Gs).Nodup) (ha : As.Sublist (Gs.take m)) (hb : Bs.Sublist (Gs.drop m)) : (nm (As ++ Bs)).filter (fun z => decide (z ∈ (nm Gs).take m)) = nm As := by
  have e : (nm Gs).take m = nm (Gs.take m) := List.map_take.symm
  have nd2 : (nm (Gs.take m) ++ nm (Gs.drop m)).Nodup := by
    have : nm (Gs.take m) ++ nm (Gs.drop m) = nm Gs := by
      unfold nm
      rw [← List.map_append, List.take_append_drop]
    rw [this]
    exact nd
  have ap := (List.nodup_append.mp nd2).2.2
  have e2 : nm (As ++ Bs) = nm As ++ nm Bs := List.map_append
  rw [e, e2, List.filter_append, List.filter_eq_self.mpr fun z hz => decide_eq_true ((nm_sub ha).subset hz), List.filter_eq_nil_iff.mpr fun z hz => ?_, List.append_nil]
  intro q
  exact ap z (of_decide_eq_true q) z ((nm_sub hb).subset hz) rfl
theorem paired_take {α β : Type} {R : α → β → Prop} : ∀ {xs : List α} {ys : List β}, Paired R xs ys → ∀ m, Paired R (xs.take m) (ys.take m)
  | _, _, .nil, m => by
    rw [List.take_nil, List.take_nil]
    exact .nil
  | _, _, .cons h t, 0 => .nil
  | _, _, .cons h t, m + 1 => .cons h (paired_take t m)
theorem rg60 : ∀ n : Fin 61, Builtin.Range.small 0 (n.val : Int) (1 + (n.val : Int) / 6) = true := by decide +kernel
theorem rg_six {n : Nat} (h : n ≤ 60) : ∃ m, RgC 0 (n : Int) (1 + (n : Int) / 6) m :=
  ⟨_, by omega, by omega, rg60 ⟨n, by omega⟩, PyProof.Rows.rangeSize_toNat _ _ _⟩
theorem sh_two {zs ys : List Str} (h : ∀ z ∈ zs, PySem.PyData.strOk z = true) (h' : ∀ z ∈ ys, PySem.PyData.strOk z = true) : SeqAt.shaped (.tuple [.list (zs.map PyData.str), .list (ys.map PyData.str)]) = true := by
  unfold SeqAt.shaped
  have h1 : PyData.canLay0 (.tuple [.list (zs.map PyData.str), .list (ys.map PyData.str)]) = true := by
    simp [PyData.canLay0, PyData.canLayAll0, lay_strs h, lay_strs h']
  have h2 : (PyData.tuple [.list (zs.map PyData.str), .list (ys.map PyData.str)]).depth ≤ 64 := by
    simp only [PyData.depth, PyData.depthAll, dpt_strs]
    decide
  rw [h1, decide_eq_true h2]
  rfl
theorem eqv_self {d : PyData} (h : SeqAt.shaped d = true) : PyData.eqv d d = true := SeqAt.eqv_refl_plain _ (shaped_plain h)
end My

/-! whom one may take from: what is told, as lists -/
namespace My
open PySem PySem.Spec PyProof.Rows L2 GX GxR
def dueOf : List (Str × List Int) → Str → List Int
  | [], _ => []
  | kv :: kvs, g => if kv.1 = g then kv.2 else dueOf kvs g
theorem dueOf_eq {g : Str} {dn : List Int} : ∀ {kvs : List (Str × List Int)}, (kvs.map (·.1)).Nodup → (g, dn) ∈ kvs → dueOf kvs g = dn
  | [], _, h => nomatch h
  | kv :: kvs, nd, h => by
    rw [List.map_cons, List.nodup_cons] at nd
    unfold dueOf
    rcases List.mem_cons.mp h with z | z
    · rw [← z, if_pos rfl]
    · rw [if_neg fun e => nd.1 (List.mem_map.mpr ⟨_, z, e.symm⟩)]
      exact dueOf_eq nd.2 z
def ofG (Rs : List (Gang × Int)) (g : Str) : List (Gang × Int) := Rs.filter fun R => decide (R.1.guild = g)
def lentOfG (kvs : List (Str × List Int)) (Rs : List (Gang × Int)) (g : Str) : List Str := (partRs (dueOf kvs g) (ofG Rs g)).2.1.map (·.name)
def lentIn (kvs : List (Str × List Int)) (Rs : List (Gang × Int)) (z : Str) : Bool := Rs.any fun R => decide (z ∈ lentOfG kvs Rs R.1.guild)
def gIn (a b c : Bool) : Option Str := if (a && (b || c)) = true then some "rank" else none
def gBey (a b c : Bool) : Option Str := if (b && c) = true then some "share" else if (b && a) = true then some "rank" else none
def oV : Option Str → V
  | some z => .str z
  | none => .non
/-- the ground for the other gang O -/
def groundOf (kvs : List (Str × List Int)) (Rs : List (Gang × Int)) (G O : Gang) : Option Str :=
  if O.guild = G.guild then gIn (decide (O.rank < G.rank)) (lentIn kvs Rs O.name) (ownB (dueOf kvs G.guild) (ofG Rs G.guild) G)
  else gBey (decide (O.rank < G.rank)) (lentIn kvs Rs O.name) (owedB (dueOf kvs G.guild) (ofG Rs G.guild) G)
def pairOf (kvs : List (Str × List Int)) (Rs : List (Gang × Int)) (ns : List Str) (G O : Gang) : List (Str × Str) :=
  match groundOf kvs Rs G O with
  | some z => if O.name ∈ ns then [(O.name, z)] else []
  | none => []
def mayL (kvs : List (Str × List Int)) (Rs : List (Gang × Int)) (ns : List Str) (G : Gang) : List (Str × Str) := ((ord Rs).map (·.1)).reverse.flatMap (pairOf kvs Rs ns G)
def TelAt (H : Hp) (t : Addr) (p : Str × Str) : Prop := H t = some (.tup [.str p.1, .str p.2])
theorem TelAt.kt {H H' : Hp} {t : Addr} {p : Str × Str} (k : KTu H H') (h : TelAt H t p) : TelAt H' t p := k _ _ h
/-- dues and rows as they are handed in -/
structure DR (K : PySem.W.Frag) (H : Hp) (d a : Addr) (wr : Nat) (kvs : List (Str × List Int)) (as : List Addr) (Rs : List (Gang × Int)) : Prop where
  dues : ∃ ps : List (Key × V), Rd H d (.dK ps) ∧ Paired (DueAt H) ps kvs
  keys : (kvs.map (·.1)).Nodup
  len : ∀ kv ∈ kvs, kv.2.length = wr
  w1 : 1 ≤ wr
  w8 : wr ≤ 8
  rows : SqL K H a (as.map V.ref)
  prs : Paired (RowAt H) as Rs
  good : Good2 Rs
  few : Rs.length ≤ 60
  want : ∀ R ∈ Rs, R.1.want.length = wr
  guild : ∀ R ∈ Rs, R.1.guild ∈ kvs.map (·.1)
theorem DR.fw {K : PySem.W.Frag} {Ts : List Addr} {H H' : Hp} {d a : Addr} {wr : Nat} {kvs : List (Str × List Int)} {as : List Addr} {Rs : List (Gang × Int)} (t : Tabs Ts H) (f : Fw Ts H H') (h : DR K H d a wr kvs as Rs) : DR K H' d a wr kvs as Rs := by
  obtain ⟨ps, h1, h2⟩ := h.dues
  refine ⟨⟨ps, ?_, h2.mono fun _ _ x => x.kt (f.kt t)⟩, h.keys, h.len, h.w1, h.w8, f.seqL t h.rows, h.prs.mono fun _ _ x => x.kt (f.kt t), h.good, h.few, h.want, h.guild⟩
  rcases h1 with e | ⟨od, e⟩
  · exact .inl (f.obj t e fun pp z => by cases z)
  · exact .inr ⟨od, f.obj t e fun pp z => by cases z⟩
theorem DR.get {K : PySem.W.Frag} {H : Hp} {d a : Addr} {wr : Nat} {kvs : List (Str × List Int)} {as : List Addr} {Rs : List (Gang × Int)} (h : DR K H d a wr kvs as Rs) {g : Str} (hg : g ∈ kvs.map (·.1)) :
    ∃ av, DGet H d (.str g) (some (.ref av)) ∧ H av = some (.tup ((dueOf kvs g).map V.int)) ∧ (dueOf kvs g).length = wr := by
  obtain ⟨ps, h1, h2⟩ := h.dues
  obtain ⟨av, dn, vv, mkv, ea⟩ := valV_due h2 h.keys hg
  have e := dueOf_eq h.keys mkv
  refine ⟨av, dgetR h1 vv, ?_, ?_⟩
  · rw [e]
    exact ea
  · rw [e]
    exact h.len _ mkv
def spGOf : Sp := fun vs H Q _ => ∃ (g : Addr) (G : Gang), vs = [.ref g] ∧ GangAt H g G ∧ Q (.str G.guild) H
def spGr (f : Bool → Bool → Bool → Option Str) : Sp := fun vs H Q _ => ∃ a b c : Bool, vs = [.bl a, .bl b, .bl c] ∧ Q (oV (f a b c)) H
def spLent (K : PySem.W.Frag) (Ts : List Addr) : Sp := fun vs H Q _ => ∃ (d a : Addr) (wr : Nat) (kvs : List (Str × List Int)) (as : List Addr) (Rs : List (Gang × Int)), vs = [.ref d, .ref a] ∧ DR K H d a wr kvs as Rs ∧ Tabs Ts H ∧
  ∀ p H' (qs : List (Key × V)), Fw Ts H H' → H p = none → H' p = some (.dK qs) → (∀ z : Str, (valV qs (Sum.inr z)).isSome = lentIn kvs Rs z) → Q (.ref p) H'
def spMay (K : PySem.W.Frag) (Ts : List Addr) : Sp := fun vs H Q _ => ∃ (d a n g : Addr) (wr : Nat) (kvs : List (Str × List Int)) (as : List Addr) (Rs : List (Gang × Int)) (ns : List Str) (G : Gang), vs = [.ref d, .ref a, .ref n, .ref g] ∧ DR K H d a wr kvs as Rs ∧ SqL K H n (ns.map V.str) ∧ GangAt H g G ∧ Fit (G, 0) ∧ G.want.length = wr ∧ G.guild ∈ kvs.map (·.1) ∧
  (∀ R ∈ Rs, R.1.name ≠ G.name) ∧ Tabs Ts H ∧ ∀ p H' ts, Fw Ts H H' → H p = none → H' p = some (.lst (ts.map V.ref)) → Paired (TelAt H') ts (mayL kvs Rs ns G) → Q (.ref p) H'
end My

/-! whom one may take from, by the laws' own reckoning -/
namespace My
open PySem PySem.Spec PyProof.Rows L2 GX GxR
def takenOf (kvs : List (Str × List Int)) (Rs : List (Gang × Int)) (G O : Gang) : List (Str × Str) :=
  match groundOf kvs Rs G O with
  | some z => [(O.name, z)]
  | none => []
def takenL (kvs : List (Str × List Int)) (Rs : List (Gang × Int)) (G : Gang) : List (Str × Str) := ((ord Rs).map (·.1)).reverse.flatMap (takenOf kvs Rs G)
theorem filter_flatMap {α β : Type} (p : β → Bool) (f : α → List β) : ∀ xs : List α, (xs.flatMap f).filter p = xs.flatMap fun x => (f x).filter p
  | [] => rfl
  | x :: xs => by
    rw [List.flatMap_cons, List.flatMap_cons, List.filter_append, filter_flatMap p f xs]
theorem may_taken (kvs : List (Str × List Int)) (Rs : List (Gang × Int)) (ns : List Str) (G : Gang) : mayL kvs Rs ns G = (takenL kvs Rs G).filter fun p => decide (p.1 ∈ ns) := by
  unfold mayL takenL
  rw [filter_flatMap]
  congr 1
  funext O
  unfold pairOf takenOf
  cases groundOf kvs Rs G O with
  | none => rfl
  | some z =>
    by_cases h : O.name ∈ ns
    · simp [h]
    · simp [h]
theorem mem_takenL {kvs : List (Str × List Int)} {Rs : List (Gang × Int)} {G : Gang} {p : Str × Str} (h : p ∈ takenL kvs Rs G) : ∃ R ∈ Rs, R.1.name = p.1 ∧ groundOf kvs Rs G R.1 = some p.2 := by
  obtain ⟨O, hO, hp⟩ := List.mem_flatMap.mp h
  obtain ⟨R, hR, rfl⟩ := List.mem_map.mp (List.mem_reverse.mp hO)
  unfold takenOf at hp
  split at hp
  · have := List.mem_singleton.mp hp
    subst this
    exact ⟨R, (ord_perm Rs).mem_iff.mp hR, rfl, by assumption⟩
  · exact (nomatch hp)
theorem may_all {kvs : List (Str × List Int)} {Rs : List (Gang × Int)} {ns : List Str} {G : Gang} (h : ∀ R ∈ Rs, R.1.name ∈ ns) : mayL kvs Rs ns G = takenL kvs Rs G := by
  rw [may_taken, List.filter_eq_self.mpr fun p hp => ?_]
  obtain ⟨R, hR, e, _⟩ := mem_takenL hp
  rw [← e]
  exact decide_eq_true (h R hR)
/-- all names that are lent, guild by guild -/
def lentAll (kvs : List (Str × List Int)) (Rs : List (Gang × Int)) (ks : List (Str × List Int)) : List Str := ks.flatMap fun kv => lentOfG kvs Rs kv.1
theorem lentG_row {kvs : List (Str × List Int)} {Rs : List (Gang × Int)} {g z : Str} (h : z ∈ lentOfG kvs Rs g) : ∃ R ∈ Rs, R.1.guild = g ∧ R.1.name = z := by
  obtain ⟨F, hF, e⟩ := List.mem_map.mp h
  obtain ⟨R, hR, rfl⟩ := partRs_mem (.inr hF)
  obtain ⟨h1, h2⟩ := List.mem_filter.mp hR
  exact ⟨R, h1, of_decide_eq_true h2, e⟩
theorem lentAll_mem {kvs : List (Str × List Int)} {Rs : List (Gang × Int)} (hg : ∀ R ∈ Rs, R.1.guild ∈ kvs.map (·.1)) (z : Str) : decide (z ∈ lentAll kvs Rs kvs) = lentIn kvs Rs z := by
  unfold lentAll lentIn
  cases e : Rs.any fun R => decide (z ∈ lentOfG kvs Rs R.1.guild) with
  | true =>
    obtain ⟨R, hR, h⟩ := List.any_eq_true.mp e
    obtain ⟨kv, hkv, ek⟩ := List.mem_map.mp (hg R hR)
    refine decide_eq_true (List.mem_flatMap.mpr ⟨kv, hkv, ?_⟩)
    rw [ek]
    exact of_decide_eq_true h
  | false =>
    refine decide_eq_false fun q => ?_
    obtain ⟨kv, hkv, h⟩ := List.mem_flatMap.mp q
    obtain ⟨R, hR, h1, h2⟩ := lentG_row h
    have := List.any_eq_false.mp e R hR
    rw [h1] at this
    exact this (decide_eq_true h)
theorem lentG_len (kvs : List (Str × List Int)) (Rs : List (Gang × Int)) (g : Str) : (lentOfG kvs Rs g).length ≤ Rs.length := by
  unfold lentOfG
  rw [List.length_map]
  have h1 := partRs_len (dueOf kvs g) (ofG Rs g)
  have h2 : (ofG Rs g).length ≤ Rs.length := List.length_filter_le _ _
  omega
theorem lentAll_len (kvs : List (Str × List Int)) (Rs : List (Gang × Int)) : ∀ ks : List (Str × List Int), (lentAll kvs Rs ks).length ≤ ks.length * Rs.length
  | [] => by simp [lentAll]
  | kv :: ks => by
    have ih := lentAll_len kvs Rs ks
    have h := lentG_len kvs Rs kv.1
    unfold lentAll at ih ⊢
    rw [List.flatMap_cons, List.length_append, List.length_cons, Nat.succ_mul]
    omega
/-- locked or not, what is read of dues and rows stands -/
theorem DR.same {K : PySem.W.Frag} {H H' : Hp} {d a : Addr} {wr : Nat} {kvs : List (Str × List Int)} {as : List Addr} {Rs : List (Gang × Int)} (s : Same H H') (h : DR K H d a wr kvs as Rs) : DR K H' d a wr kvs as Rs := by
  obtain ⟨ps, h1, h2⟩ := h.dues
  refine ⟨⟨ps, ?_, h2.mono fun _ _ x => x.kt (Same.kt s)⟩, h.keys, h.len, h.w1, h.w8, s.seq h.rows, h.prs.mono fun _ _ x => x.same s, h.good, h.few, h.want, h.guild⟩
  rcases h1 with e | ⟨od, e⟩
  · exact .inl (s _ _ e)
  · exact .inr ⟨od, s _ _ e⟩
def spTaken (K : PySem.W.Frag) : Sp := fun vs H Q _ => ∃ (d a g : Addr) (wr : Nat) (kvs : List (Str × List Int)) (as : List Addr) (Rs : List (Gang × Int)) (G : Gang), vs = [.ref d, .ref a, .ref g] ∧ DR K H d a wr kvs as Rs ∧ (∃ ps : List (Key × V), H d = some (.dK ps)) ∧ H a = some (.lst (as.map V.ref)) ∧ kvs.length ≤ 12 ∧ GangAt H g G ∧ Fit (G, 0) ∧ G.want.length = wr ∧ G.guild ∈ kvs.map (·.1) ∧
  ∀ p H' ts, Same H H' → H p = none → H' p = some (.lst (ts.map V.ref)) → Paired (TelAt H') ts (takenL kvs Rs G) → Q (.ref p) H'
end My

/-! dues, rows and a gang, as the laws hand them in -/
namespace My
open PySem PySem.Spec PyProof.Rows L2 GX GxR
structure RI (K : PySem.W.Frag) (H : Hp) (d a g : Addr) (wr : Nat) (kvs : List (Str × List Int)) (as : List Addr) (Rs : List (Gang × Int)) (G : Gang) : Prop where
  dr : DR K H d a wr kvs as Rs
  dd : ∃ ps : List (Key × V), H d = some (.dK ps)
  la : H a = some (.lst (as.map V.ref))
  l12 : kvs.length ≤ 12
  at_ : GangAt H g G
  fit : Fit (G, 0)
  wl : G.want.length = wr
  gg : G.guild ∈ kvs.map (·.1)
  no : ∀ R ∈ Rs, R.1.name ≠ G.name
theorem RI.fw {K : PySem.W.Frag} {Ts : List Addr} {H H' : Hp} {d a g : Addr} {wr : Nat} {kvs : List (Str × List Int)} {as : List Addr} {Rs : List (Gang × Int)} {G : Gang} (t : Tabs Ts H) (f : Fw Ts H H') (h : RI K H d a g wr kvs as Rs G) : RI K H' d a g wr kvs as Rs G := by
  obtain ⟨ps, hd⟩ := h.dd
  exact ⟨h.dr.fw t f, ⟨ps, f.obj t hd fun pp z => by cases z⟩, f.lst t h.la, h.l12, h.at_.kt (f.kt t), h.fit, h.wl, h.gg, h.no⟩
theorem RI.same {K : PySem.W.Frag} {H H' : Hp} {d a g : Addr} {wr : Nat} {kvs : List (Str × List Int)} {as : List Addr} {Rs : List (Gang × Int)} {G : Gang} (s : Same H H') (h : RI K H d a g wr kvs as Rs G) : RI K H' d a g wr kvs as Rs G := by
  obtain ⟨ps, hd⟩ := h.dd
  exact ⟨h.dr.same s, ⟨ps, s _ _ hd⟩, s _ _ h.la, h.l12, h.at_.same s, h.fit, h.wl, h.gg, h.no⟩
def spRI (K : PySem.W.Frag) (Ts : List Addr) : Sp := fun vs H Q _ => ∃ (d a g : Addr) (wr : Nat) (kvs : List (Str × List Int)) (as : List Addr) (Rs : List (Gang × Int)) (G : Gang), vs = [.ref d, .ref a, .ref g] ∧ RI K H d a g wr kvs as Rs G ∧ Tabs Ts H ∧ ∀ H', Fw Ts H H' → Q (.bl true) H'
theorem prs_tels {H : Hp} {n : Nat} : ∀ {ts us : List Addr} {ps : List (Str × Str)}, Paired (TelAt H) ts ps → Paired (TelAt H) us ps → Prs (Sm H (n + 1)) (ts.map V.ref) (us.map V.ref)
  | _, _, _, .nil, .nil => .nil
  | _, _, _, .cons h t, .cons h' t' => .cons (sm_tup h h' (by show 2 < 100000; decide) (.cons (sm_str _) (.cons (sm_str _) .nil))) (prs_tels t t')
theorem may_len (kvs : List (Str × List Int)) (Rs : List (Gang × Int)) (ns : List Str) (G : Gang) : (mayL kvs Rs ns G).length ≤ Rs.length := by
  have h : ∀ Gs : List Gang, (Gs.flatMap (pairOf kvs Rs ns G)).length ≤ Gs.length := fun Gs => by
    induction Gs with
    | nil => exact Nat.le_refl _
    | cons O Gs ih =>
      rw [List.flatMap_cons, List.length_append, List.length_cons]
      have : (pairOf kvs Rs ns G O).length ≤ 1 := by
        unfold pairOf
        split
        · split
          · exact Nat.le_refl _
          · exact Nat.zero_le _
        · exact Nat.zero_le _
      omega
  have := h ((ord Rs).map (·.1)).reverse
  rw [List.length_reverse, List.length_map, (ord_perm Rs).length_eq] at this
  exact this
end My

/-! the state's dues, rows and gang are fit to be handed in -/
namespace My
open PySem PySem.Spec PyProof.Rows L2 GX GxR
section
variable {K : PySem.W.Frag} {H : Hp} {d r g : Addr} {gs : List Str} {wr : Nat} {kvs : List (Str × List Int)} {Rs : List (Gang × Int)} {G : Gang}
theorem StateAt.kn (St : StateAt H d r g gs wr kvs Rs G) : (kvs.map (·.1)).Nodup := by
  rw [St.keys]
  exact St.gsok.nd
theorem StateAt.good (St : StateAt H d r g gs wr kvs Rs G) : Good2 Rs := good_state St.gsok St.w8 St.rok
theorem StateAt.l12 (St : StateAt H d r g gs wr kvs Rs G) : kvs.length ≤ 12 := by
  have := St.gsok.l12
  rw [← St.keys, List.length_map] at this
  exact this
theorem StateAt.fitG (St : StateAt H d r g gs wr kvs Rs G) : Fit (G, 0) := by
  refine fit_of St.gok St.gsok St.w8 ?_
  have : ∀ z ∈ (["z", "aaaaaaa", "zed"] : List Str), PySem.PyData.strOk z = true := by decide +kernel
  exact this _ St.gname
theorem StateAt.row (St : StateAt H d r g gs wr kvs Rs G) {R : Gang × Int} (h : R ∈ Rs) : GangOk gs wr R.1 := by
  obtain ⟨i, hi⟩ := List.mem_iff_getElem?.mp h
  exact (St.rok.2 i R hi).ok
theorem StateAt.no (St : StateAt H d r g gs wr kvs Rs G) : ∀ R ∈ Rs, R.1.name ≠ G.name := fun R hR z => by
  obtain ⟨i, hi⟩ := List.mem_iff_getElem?.mp hR
  have hi' : i < Rs.length := (List.getElem?_eq_some_iff.mp hi).1
  have lR := St.rok.1
  have nn := (St.rok.2 i R hi).name
  have off := (names_ok1.2 _ (rowName_mem (i := i) (by omega))).2.2
  rw [← nn, z] at off
  exact absurd St.gname off
theorem StateAt.same {H' : Hp} (St : StateAt H d r g gs wr kvs Rs G) (s : Same H H') : StateAt H' d r g gs wr kvs Rs G :=
  ⟨St.gsok, St.w1, St.w8, St.dues.kt (Same.kt s) (fun o h => s _ _ h), St.keys, St.amts, St.rows.kt (Same.kt s) (fun o h => s _ _ h), St.rok, St.gang.same s, St.gok, St.gname⟩
theorem StateAt.fw {Ts : List Addr} {H' : Hp} (St : StateAt H d r g gs wr kvs Rs G) (t : Tabs Ts H) (f : Fw Ts H H') : StateAt H' d r g gs wr kvs Rs G := by
  obtain ⟨ps, h1, h2⟩ := St.dues
  obtain ⟨as, h3, h4⟩ := St.rows
  exact ⟨St.gsok, St.w1, St.w8, ⟨ps, f.obj t h1 (fun pp z => by cases z), h2.mono fun _ _ x => x.kt (f.kt t)⟩, St.keys, St.amts, ⟨as, f.lst t h3, h4.mono fun _ _ x => x.kt (f.kt t)⟩, St.rok, St.gang.kt (f.kt t), St.gok, St.gname⟩
/-- rows of the state, in a list of their own, and a gang beside them -/
theorem StateAt.dr (St : StateAt H d r g gs wr kvs Rs G) {a : Addr} {bs : List Addr} {Ss : List (Gang × Int)} (ha : H a = some (.lst (bs.map V.ref))) (hp : Paired (RowAt H) bs Ss) (hs : ∀ R ∈ Ss, R ∈ Rs) (good : Good2 Ss) (few : Ss.length ≤ 60) : DR K H d a wr kvs bs Ss := by
  obtain ⟨ps, h1, h2⟩ := St.dues
  refine ⟨⟨ps, .inl h1, h2⟩, St.kn, fun kv h => (St.amts kv h).2, St.w1, St.w8, SqL.of ha, hp, good, few, fun R hR => (St.row (hs R hR)).wlen, fun R hR => ?_⟩
  rw [St.keys]
  exact (St.row (hs R hR)).guild
theorem StateAt.ri (St : StateAt H d r g gs wr kvs Rs G) {a : Addr} {bs : List Addr} {Ss : List (Gang × Int)} (ha : H a = some (.lst (bs.map V.ref))) (hp : Paired (RowAt H) bs Ss) (hs : ∀ R ∈ Ss, R ∈ Rs) (good : Good2 Ss) (few : Ss.length ≤ 60) : RI K H d a g wr kvs bs Ss G := by
  obtain ⟨ps, h1, h2⟩ := St.dues
  refine ⟨St.dr ha hp hs good few, ⟨ps, h1⟩, ha, St.l12, St.gang, St.fitG, St.gok.wlen, ?_, fun R hR => St.no R (hs R hR)⟩
  rw [St.keys]
  exact St.gok.guild
/-- one of the rows' own gangs beside the others -/
theorem StateAt.ri1 (St : StateAt H d r g gs wr kvs Rs G) {a o : Addr} {bs : List Addr} {Ss : List (Gang × Int)} {O : Gang × Int} (hO : O ∈ Rs) (hg : GangAt H o O.1) (no : ∀ R ∈ Ss, R.1.name ≠ O.1.name) (ha : H a = some (.lst (bs.map V.ref))) (hp : Paired (RowAt H) bs Ss) (hs : ∀ R ∈ Ss, R ∈ Rs) (good : Good2 Ss) (few : Ss.length ≤ 60) : RI K H d a o wr kvs bs Ss O.1 := by
  obtain ⟨ps, h1, h2⟩ := St.dues
  have ft := St.good.fit O hO
  refine ⟨St.dr ha hp hs good few, ⟨ps, h1⟩, ha, St.l12, hg, ⟨ft.name, ft.guild, ft.how, ft.wlen, ft.amt, ft.m0, ft.m60⟩, (St.row hO).wlen, ?_, no⟩
  rw [St.keys]
  exact (St.row hO).guild
end
/-! rows turned about -/
theorem paired_app {α β : Type} {R : α → β → Prop} : ∀ {xs : List α} {ys : List β} {us : List α} {vs : List β}, Paired R xs ys → Paired R us vs → Paired R (xs ++ us) (ys ++ vs)
  | _, _, _, _, .nil, h => h
  | _, _, _, _, .cons r t, h => .cons r (paired_app t h)
theorem paired_drop {α β : Type} {R : α → β → Prop} : ∀ {xs : List α} {ys : List β}, Paired R xs ys → ∀ m, Paired R (xs.drop m) (ys.drop m)
  | _, _, .nil, m => by
    rw [List.drop_nil, List.drop_nil]
    exact .nil
  | _, _, .cons h t, 0 => .cons h t
  | _, _, .cons h t, m + 1 => paired_drop t m
theorem rot_perm {α : Type} (xs : List α) (m : Nat) : (xs.drop m ++ xs.take m).Perm xs := by
  have h := List.perm_append_comm (l₁ := xs.drop m) (l₂ := xs.take m)
  rw [List.take_append_drop] at h
  exact h
/-- a box that is asked is no other thing's business -/
theorem Fw.box {Ts : List Addr} {H H1 H2 : Hp} {b : Addr} (t : Tabs Ts H) (f : Fw Ts H H1) (n : H b = none) (k : Kp [b] H1 H2) : Fw Ts H H2 := by
  refine ⟨fun x o nx e => k x o (fun z => ?_) (f.kp x o nx e), fun T hT => ?_⟩
  · rw [List.mem_singleton.mp z, n] at e
    cases e
  · refine TabG.kp k (fun z => ?_) (f.tabs T hT)
    obtain ⟨ps, h1, _⟩ := t T hT
    rw [List.mem_singleton.mp z, n] at h1
    cases h1
theorem duePut_mem {kvs : List (Str × List Int)} {g : Str} {ns : List Int} {kv : Str × List Int} (h : kv ∈ duePut kvs g ns) : kv ∈ kvs ∨ kv.2 = ns := by
  obtain ⟨x, hx, e⟩ := List.mem_map.mp h
  split at e
  · exact .inr (by rw [← e])
  · exact .inl (by rw [← e]; exact hx)
end My

set_option maxHeartbeats 1000000
namespace My
open PySem PySem.Spec PyProof.Rows L2 GX GxR
/-- a group: a list of pairs -/
def GrpAt (H : Hp) (v : V) (ps : List (Str × Int)) : Prop := ∃ (a : Addr) (us : List V), v = .ref a ∧ H a = some (.lst us) ∧ PairVs H us ps ∧ ps.length ≤ 500 ∧ ∀ q ∈ ps, 0 ≤ q.2 ∧ q.2 ≤ 1000000000000
theorem GrpAt.fw {H H' : Hp} {v : V} {ps : List (Str × Int)} {Ts : List Addr} (t : Tabs Ts H) (f : Fw Ts H H') (h : GrpAt H v ps) : GrpAt H' v ps := by
  obtain ⟨a, us, e, h1, h2, h3⟩ := h
  exact ⟨a, us, e, f.lst t h1, h2.kt (f.kt t), h3⟩
def pD (q : Str × Int) : PyData := .tuple [.str q.1, .int q.2]
theorem sorted_pairs14 {cs : List (V × (Str × Int))} (h : (cs.map fun p => (p.1, pD p.2)).Pairwise (fun x y => SX.dLe x y = true)) : sortedS ((cs.map (·.2)).map (·.1)) = true := by
  rw [List.pairwise_map] at h
  refine SX.sorted_of ?_
  rw [List.map_map, List.pairwise_map]
  exact h.imp fun {a b} z => SX.dLe_str rfl rfl z
theorem dc_list {K : PySem.W.Frag} {a : Addr} {xs : List V} {g : TG} {tt : TT} {tk tv : TE} {vs : List Nat} {σ : L2.St} {H1 : Hp} {D : Addr} {Qd : Hp → Prop} (Pv : Nat → Hp → Prop) (h0 : Pv 0 (upd H1 D (.dK []))) (hl : ∀ i H, i ≤ xs.length → Pv i H → SqL K H a xs)
    (hs : ∀ i x H, xs[i]? = some x → Pv i H → g x (wipe σ vs) H fun σ2 H2 => wipe σ2 vs = wipe σ vs ∧ tt σ2 H2 fun b H3 =>
      if b = true then tk σ2 H3 fun y H4 => tv σ2 H4 fun z H5 => ∃ kvs k, y = kV k ∧ H5 D = some (.dK kvs) ∧ kvs.length < sizeLine ∧ Pv (i + 1) (upd H5 D (.dK (putK kvs k z))) else Pv (i + 1) H3) (hd : ∀ H, Pv xs.length H → Qd H) :
    ∃ W : Nat → Nat → Hp → Prop, (∃ m, W 0 m (upd H1 D (.dK []))) ∧ ∀ i m H, W i m H →
      ((Itl K a).stop i H ∧ Qd H) ∨ ((Itl K a).go i H ∧ ∃ Nx : Hp → Prop, (∀ H', Nx H' → ∃ m', m' < m ∧ W (i + 1) m' H') ∧ ∀ x H', (Itl K a).yld i H x H' → g x (wipe σ vs) H' fun σ2 H2 => wipe σ2 vs = wipe σ vs ∧ tt σ2 H2 fun b H3 =>
        if b = true then tk σ2 H3 fun y H4 => tv σ2 H4 fun z H5 => ∃ kvs k, y = kV k ∧ H5 D = some (.dK kvs) ∧ kvs.length < sizeLine ∧ Nx (upd H5 D (.dK (putK kvs k z))) else Nx H3) := by
  refine ⟨fun i m H => m = xs.length - i ∧ i ≤ xs.length ∧ Pv i H, ⟨xs.length, rfl, Nat.zero_le _, h0⟩, ?_⟩
  rintro i m H ⟨rfl, hi, p⟩
  have q := hl i H hi p
  by_cases hlt : i < xs.length
  · refine .inr ⟨⟨xs, xs[i], q, by simp [hlt]⟩, Pv (i + 1), fun H' p' => ⟨xs.length - (i + 1), by omega, rfl, hlt, p'⟩, fun x H' y => ?_⟩
    obtain ⟨e, y⟩ := y
    subst e
    exact hs i x _ (y xs q) p
  · have e : i = xs.length := by omega
    subst e
    exact .inl ⟨⟨xs, q, Nat.le_refl _⟩, hd H p⟩
def kvsY (rs : List House) : List (Key × V) := rs.map fun r => (.inr r.name, .str r.yard)
/-- the yard of a house -/
def ydOf (rs : List House) (h : Str) : Str := ((rs.find? fun r => decide (r.name = h)).map (·.yard)).getD (Str.ofString "")
theorem ydOf_is : ∀ {rs : List House} {r : House}, (rs.map (·.name)).Nodup → r ∈ rs → ydOf rs r.name = r.yard
  | x :: rs, r, nd, h => by
    rw [List.map_cons, List.nodup_cons] at nd
    unfold ydOf
    rw [List.find?_cons]
    by_cases e : x.name = r.name
    · have er : r = x := by
        rcases List.mem_cons.mp h with z | z
        · exact z
        · exact absurd (List.mem_map.mpr ⟨r, z, e.symm⟩) nd.1
      rw [decide_eq_true e, er]
      rfl
    · have hm : r ∈ rs := by
        rcases List.mem_cons.mp h with z | z
        · rw [z] at e; exact absurd rfl e
        · exact z
      rw [decide_eq_false e]
      exact ydOf_is nd.2 hm
theorem valV_Y : ∀ {rs : List House} {r : House}, (rs.map (·.name)).Nodup → r ∈ rs → valV (kvsY rs) (.inr r.name) = some (.str r.yard)
  | x :: rs, r, nd, h => by
    rw [List.map_cons, List.nodup_cons] at nd
    by_cases e : x.name = r.name
    · have er : r = x := by
        rcases List.mem_cons.mp h with z | z
        · exact z
        · exact absurd (List.mem_map.mpr ⟨r, z, e.symm⟩) nd.1
      subst er
      exact valV_pos rfl
    · have hm : r ∈ rs := by
        rcases List.mem_cons.mp h with z | z
        · rw [z] at e; exact absurd rfl e
        · exact z
      show valV ((.inr x.name, .str x.yard) :: kvsY rs) (.inr r.name) = _
      rw [valV_neg (fun z => e (Sum.inr.inj z))]
      exact valV_Y nd.2 hm
theorem val_yd {rs : List House} (nd : (rs.map (·.name)).Nodup) {z : Str} (h : z ∈ rs.map (·.name)) : valV (kvsY rs) (.inr z) = some (.str (ydOf rs z)) := by
  obtain ⟨r, hr, rfl⟩ := List.mem_map.mp h
  rw [valV_Y nd hr, ydOf_is nd hr]
/-- the names ahead are other ones -/
theorem fresh_name {rs : List House} (nd : (rs.map (·.name)).Nodup) {i : Nat} {r : House} (h : rs[i]? = some r) : ∀ x ∈ rs.take i, x.name ≠ r.name := fun x hx e => by
  have hi : i < rs.length := (List.getElem?_eq_some_iff.mp h).1
  obtain ⟨j, hj, ej⟩ := List.mem_iff_getElem.mp hx
  rw [List.length_take] at hj
  rw [List.getElem_take] at ej
  have hn := List.pairwise_iff_getElem.mp nd j i (by rw [List.length_map]; omega) (by rw [List.length_map]; omega) (by omega)
  rw [List.getElem_map, List.getElem_map] at hn
  have e3 : rs[i] = r := (List.getElem?_eq_some_iff.mp h).2
  rw [ej, e3] at hn
  exact hn e
theorem GrpAt.put {H : Hp} {v : V} {ps : List (Str × Int)} {D : Addr} {xs ys : List V} (e : H D = some (.lst xs)) (ne : v ≠ .ref D) (h : GrpAt H v ps) : GrpAt (upd H D (.lst ys)) v ps := by
  obtain ⟨a, us, rfl, h1, h2, h3⟩ := h
  exact ⟨a, us, rfl, by rw [upd_ne (fun z => ne (by rw [z]))]; exact h1, h2.put e, h3⟩
theorem GrpAt.same {H H' : Hp} {v : V} {ps : List (Str × Int)} (s : Same H H') (h : GrpAt H v ps) : GrpAt H' v ps := by
  obtain ⟨a, us, rfl, h1, h2, h3⟩ := h
  exact ⟨a, us, rfl, s _ _ h1, h2.same s, h3⟩
/-- the counts, as they are handed on -/
structure CntOk (rs : List House) (ps : List (Str × Int)) : Prop where
  mem : ∀ q ∈ ps, q.1 ∈ rs.map (·.name)
  few : ps.length ≤ 40
  bnd : ∀ q ∈ ps, 0 ≤ q.2 ∧ q.2 ≤ 1000000000000
theorem PairVs.take {H : Hp} : ∀ {vs : List V} {ps : List (Str × Int)}, PairVs H vs ps → ∀ i : Nat, PairVs H (vs.take i) (ps.take i)
  | _, _, .nil, i => by rw [List.take_nil, List.take_nil]; exact .nil
  | _, _, .cons h r, 0 => .nil
  | _, _, .cons h r, i + 1 => .cons h (r.take i)
theorem PairVs.append {H : Hp} : ∀ {vs us : List V} {ps qs : List (Str × Int)}, PairVs H vs ps → PairVs H us qs → PairVs H (vs ++ us) (ps ++ qs)
  | _, _, _, _, .nil, h => h
  | _, _, _, _, .cons h r, h' => .cons h (r.append h')
theorem posP_snoc (ps : List (Str × Int)) (q : Str × Int) : posP (ps ++ [q]) = posP ps ++ if 0 < q.2 then [q] else [] := by
  unfold posP
  rw [List.filter_append, List.filter_cons]
  simp only [decide_eq_true_eq]
  rfl
theorem firsts_snoc (gs : List (List (Str × Int))) (g : List (Str × Int)) : firstsOf (gs ++ [g]) = firstsOf gs ++ (posP g).take 1 := by
  unfold firstsOf
  rw [List.flatMap_append]
  simp
theorem firsts_len : ∀ gs : List (List (Str × Int)), (firstsOf gs).length ≤ gs.length
  | [] => Nat.le_refl _
  | g :: gs => by
    have := firsts_len gs
    show ((posP g).take 1 ++ firstsOf gs).length ≤ gs.length + 1
    rw [List.length_append, List.length_take]
    omega
theorem firsts_bnd {gs : List (List (Str × Int))} (h : ∀ g ∈ gs, ∀ q ∈ g, 0 ≤ q.2 ∧ q.2 ≤ 1000000000000) : ∀ q ∈ firstsOf gs, 0 ≤ q.2 ∧ q.2 ≤ 1000000000000 := fun q hq => by
  unfold firstsOf at hq
  obtain ⟨g, hg, hq⟩ := List.mem_flatMap.mp hq
  exact h g hg q (List.mem_filter.mp (List.mem_of_mem_take hq)).1
/-- the texts of a list, each once, in order: there is such a list -/
theorem ys_ex (L : List Str) : ∃ ys, YsOf L ys := by
  refine ⟨(SX.seenS L).mergeSort (PySem.W.dataLe false PyData.str), (List.mergeSort_perm _ _).nodup_iff.mpr (SX.seen_nd _), SX.merge_sorted _, fun y => ?_⟩
  rw [(List.mergeSort_perm _ _).mem_iff, SX.seen_mem]
theorem rows_cnt {most : Int} {want : List Int} {rs rs' : List House} (p : rs'.Perm rs) (few : rs.length ≤ 40) (h0 : 0 ≤ most) (h1 : most ≤ 1000000000000) (hq : ∀ r ∈ rs, r.left.length = want.length ∧ ∀ y ∈ r.left, 0 ≤ y) (hnz : ∃ n ∈ want, 0 < n) : CntOk rs (rowsC most want rs') := by
  refine ⟨fun q hq => ?_, by unfold rowsC; rw [List.length_map, p.length_eq]; exact few, fun q hq' => ?_⟩
  · obtain ⟨r, hr, rfl⟩ := List.mem_map.mp hq
    exact List.mem_map.mpr ⟨r, p.mem_iff.mp hr, rfl⟩
  · obtain ⟨r, hr, rfl⟩ := List.mem_map.mp hq'
    obtain ⟨l1, l2⟩ := hq r (p.mem_iff.mp hr)
    have hne := quots_ne want r.left l1.symm hnz
    obtain ⟨a1, _⟩ := least_mem hne
    have := quots_nn want r.left l2 _ a1
    show 0 ≤ cnt most want r.left ∧ cnt most want r.left ≤ _
    unfold cnt
    split <;> constructor <;> omega
end My

set_option maxHeartbeats 1000000
namespace My
open PySem PySem.Spec PyProof.Rows L2 GX GxR
abbrev s_scLMost : Stmt := topS 27
abbrev n_scLMost : List Str := ["_law_site_here", "_law_want_here", "_law_how", "_law_by_yards", "_law_rooms", "_law_house", "_law_yard", "_law_left_here"]
theorem scLMost : FnScope n_scLMost ["_law_site_here", "_law_want_here", "_law_how"] (defScope s_scLMost) := ⟨rfl, rfl, rfl, by decide +kernel, rfl, by decide +kernel, by decide +kernel⟩
theorem sum_perm {xs ys : List Int} (h : xs.Perm ys) : xs.sum = ys.sum := by
  induction h with
  | nil => rfl
  | cons x _ ih => rw [List.sum_cons, List.sum_cons, ih]
  | swap x y l =>
    rw [List.sum_cons, List.sum_cons, List.sum_cons, List.sum_cons]
    omega
  | trans _ _ h1 h2 => exact h1.trans h2
theorem put_keys {kvs : List (Key × V)} {k : Key} {v : V} : (k ∈ kvs.map (·.1) → (putK kvs k v).map (·.1) = kvs.map (·.1)) ∧ (k ∉ kvs.map (·.1) → (putK kvs k v).map (·.1) = kvs.map (·.1) ++ [k]) := by
  unfold putK
  refine ⟨fun h => ?_, fun h => ?_⟩
  · have h' : (kvs.any fun kv => decide (kv.1 = k)) = true := by
      obtain ⟨p, hp, e⟩ := List.mem_map.mp h
      exact List.any_eq_true.mpr ⟨p, hp, decide_eq_true e⟩
    rw [if_pos h', List.map_map]
    refine List.map_congr_left fun p _ => ?_
    show (if p.1 = k then (p.1, v) else p).1 = p.1
    split <;> rfl
  · have h' : ¬ (kvs.any fun kv => decide (kv.1 = k)) = true := fun z => by
      obtain ⟨p, hp, e⟩ := List.any_eq_true.mp z
      exact h (List.mem_map.mpr ⟨p, hp, of_decide_eq_true e⟩)
    rw [if_neg h', List.map_append]
    rfl
theorem merge_ndP : ∀ (l acc : List (Key × V)), ((acc ++ l).map (·.1)).Nodup → mergeK acc l = acc ++ l
  | [], acc, _ => (List.append_nil acc).symm
  | p :: l, acc, h => by
    have e : mergeK acc (p :: l) = mergeK (putK acc p.1 p.2) l := rfl
    rw [e, putK_new, merge_ndP l (acc ++ [(p.1, p.2)])]
    · rw [List.append_assoc]
      rfl
    · rw [List.append_assoc]
      exact h
    · intro q hq z
      rw [List.map_append, List.nodup_append] at h
      exact h.2.2 q.1 (List.mem_map.mpr ⟨q, hq, rfl⟩) p.1 (by simp) z
theorem PairVs.paired {K : PySem.W.Frag} {H : Hp} : ∀ {vs : List V} {ps : List (Str × Int)}, PairVs H vs ps → ∃ ts : List Addr, vs = ts.map V.ref ∧ Paired (fun (p : Addr) (kv : Key × V) => SqT K H p [kV kv.1, kv.2]) ts (ps.map fun q => ((.inr q.1 : Key), V.int q.2))
  | _, _, .nil => ⟨[], rfl, .nil⟩
  | _, _, .cons (t := t) h r => by
    obtain ⟨ts, e, p⟩ := r.paired (K := K)
    exact ⟨t :: ts, by rw [e]; rfl, .cons (SqT.of h) p⟩
theorem rows_kvs {most : Int} {want : List Int} {rs : List House} : ((rowsC most want rs).map fun q => ((.inr q.1 : Key), V.int q.2)) = kvsC most want rs := by
  unfold rowsC kvsC
  rw [List.map_map]
  rfl
theorem kvsC_keys {most : Int} {want : List Int} {rs : List House} : (kvsC most want rs).map (·.1) = (rs.map (·.name)).map Sum.inr := by
  unfold kvsC
  rw [List.map_map, List.map_map]
  rfl
theorem inr_nd {l : List Str} (h : l.Nodup) : (l.map (Sum.inr : Str → Key)).Nodup := List.Pairwise.map Sum.inr (fun a b ne z => ne (Sum.inr.inj z)) h
/-- the counts of a yard's houses -/
def cOf (cs : House → Int) (rs : List House) (y : Str) : List Int := (rs.filter fun r => decide (r.yard = y)).map cs
theorem cOf_snoc (cs : House → Int) (rs : List House) (r : House) (y : Str) : cOf cs (rs ++ [r]) y = cOf cs rs y ++ if r.yard = y then [cs r] else [] := by
  unfold cOf
  rw [List.filter_append, List.map_append, List.filter_cons]
  by_cases h : r.yard = y
  · rw [decide_eq_true h, if_pos rfl, if_pos h]
    rfl
  · rw [decide_eq_false h, if_neg Bool.false_ne_true, if_neg h]
    rfl
theorem cOf_none {cs : House → Int} {rs : List House} {y : Str} (h : y ∉ rs.map (·.yard)) : cOf cs rs y = [] := by
  unfold cOf
  rw [List.filter_eq_nil_iff.mpr fun r hr z => h (List.mem_map.mpr ⟨r, hr, of_decide_eq_true z⟩)]
  rfl
theorem cOf_some {cs : House → Int} {rs : List House} {y : Str} (h : y ∈ rs.map (·.yard)) : 0 < (cOf cs rs y).length := by
  obtain ⟨r, hr, rfl⟩ := List.mem_map.mp h
  unfold cOf
  rw [List.length_map]
  exact List.length_pos_of_mem (List.mem_filter.mpr ⟨hr, decide_eq_true rfl⟩)
/-- the dict of the yards' counts -/
structure ByOk (H : Hp) (d : Addr) (cs : House → Int) (rt : List House) (kvs : List (Key × V)) : Prop where
  nd : (kvs.map (·.1)).Nodup
  key : ∀ k ∈ kvs.map (·.1), ∃ y, k = .inr y ∧ y ∈ rt.map (·.yard)
  val : ∀ y ∈ rt.map (·.yard), ∃ a, valV kvs (.inr y) = some (.ref a) ∧ H a = some (.lst ((cOf cs rt y).map V.int)) ∧ a ≠ d
  few : kvs.length ≤ rt.length
/-- how many tasks there is room for at most -/
def MostIs (how : Str) (want : List Int) (rs : List House) (m : Int) : Prop :=
  if how = "near" then 0 ≤ m ∧ (∀ y ∈ rs.map (·.yard), (cOf (fun r => cnt 60 want r.left) rs y).sum ≤ m) ∧ (m = 0 ∨ ∃ y ∈ rs.map (·.yard), m = (cOf (fun r => cnt 60 want r.left) rs y).sum)
  else if how = "wide" then ∃ ks : List Str, ks.Nodup ∧ (∀ y, y ∈ ks ↔ y ∈ rs.map (·.yard)) ∧ m = ((ks.filter fun y => (cOf (fun r => cnt 1 want r.left) rs y).any fun n => decide (0 < n)).length : Nat)
  else m = (rs.map fun r => cnt (mostOf how 60) want r.left).sum
def spLMost : Sp := fun vs H Q _ => ∃ (s pw : Addr) (how : Str) (want : List Int) (rs : List House), vs = [.ref s, .ref pw, .str how] ∧ SiteAt want.length H s rs ∧ H pw = some (.tup (want.map V.int)) ∧ Amt want ∧ (∃ n ∈ want, n ≠ 0) ∧ want.length ≤ 8 ∧ how ∈ Hows ∧
  ∀ (m : Int) (H' : Hp), Same H H' → MostIs how want rs m → 0 ≤ m → m ≤ 100000 → Q (.int m) H'
theorem sum_le60 : ∀ (ns : List Int), (∀ x ∈ ns, 0 ≤ x ∧ x ≤ 60) → 0 ≤ ns.sum ∧ ns.sum ≤ 60 * (ns.length : Int)
  | [], _ => by simp
  | n :: ns, h => by
    obtain ⟨h1, h2⟩ := sum_le60 ns fun x hx => h x (List.mem_cons_of_mem _ hx)
    have h3 := h n List.mem_cons_self
    rw [List.sum_cons, List.length_cons]
    constructor <;> omega
theorem SiteAt.same {n : Nat} {H H' : Hp} {s : Addr} {rs : List House} (t : Same H H') (h : SiteAt n H s rs) : SiteAt n H' s rs := by
  obtain ⟨vs, h1, h2, h3⟩ := h
  exact ⟨vs, t _ _ h1, h2.imp fun v r hv => hv.same t, h3⟩
/-- the keys of the dict as texts -/
theorem ByOk.keys {H : Hp} {d : Addr} {cs : House → Int} {rt : List House} {kvs : List (Key × V)} (h : ByOk H d cs rt kvs) : ∃ ks : List Str, kvs.map (·.1) = ks.map Sum.inr ∧ ks.Nodup ∧ (∀ y, y ∈ ks ↔ y ∈ rt.map (·.yard)) ∧ ks.length = kvs.length := by
  have ex : ∀ l : List Key, (∀ k ∈ l, ∃ y, k = Sum.inr y ∧ y ∈ rt.map (·.yard)) → ∃ ks : List Str, l = ks.map Sum.inr := by
    intro l
    induction l with
    | nil => exact fun _ => ⟨[], rfl⟩
    | cons k l ih =>
      intro hk
      obtain ⟨y, e, _⟩ := hk k List.mem_cons_self
      obtain ⟨ks, e2⟩ := ih fun x hx => hk x (List.mem_cons_of_mem _ hx)
      exact ⟨y :: ks, by rw [e, e2]; rfl⟩
  obtain ⟨ks, e⟩ := ex _ h.key
  refine ⟨ks, e, ?_, fun y => ⟨fun hy => ?_, fun hy => ?_⟩, ?_⟩
  · have := h.nd
    rw [e] at this
    exact List.Pairwise.of_map (S := fun a b : Key => a ≠ b) Sum.inr (fun a b ne z => ne (by rw [z])) this
  · obtain ⟨y', e2, m⟩ := h.key (.inr y) (by rw [e]; exact List.mem_map.mpr ⟨y, hy, rfl⟩)
    rw [Sum.inr.inj e2]
    exact m
  · obtain ⟨a, e2, _⟩ := h.val y hy
    have := valV_in e2
    rw [e] at this
    obtain ⟨y', m, e3⟩ := List.mem_map.mp this
    rw [← Sum.inr.inj e3]
    exact m
  · have := congrArg List.length e
    rw [List.length_map, List.length_map] at this
    exact this.symm
section
variable {P : Program} {w : World} {K : PySem.W.Frag} {mg : Str → Option Value} {base : Heap}
theorem ok_lmost {f fC : Addr} {fd fdC : FuncData} {k : Nat} (F : Fun K "_law_most" "_law_most" s_scLMost f fd) (X : Txt mg) (mDict : mg "dict" = none) (mSum : mg "sum" = none)
    (GC : FnOk P w K mg base CX0 k fC fdC ["_law_site_here", "_law_many_here", "_law_want_here", "_law_how"] spLCounts) (mC : mg "_law_counts" = some (.ref fC)) (kC : PySem.W.keepIn K (.ref fC) = true) (bC : Binds K fdC ["_law_site_here", "_law_many_here", "_law_want_here", "_law_how"] []) :
    FnOk P w K mg base CX0 (k + 1) f fd ["_law_site_here", "_law_want_here", "_law_how"] spLMost := by
  refine F.ok scLMost (fun vs H Q E h => ?_) (fun cdv A outer s H vs Q E hr h => ?_)
  · obtain ⟨s, pw, how, want, rs, rfl, _⟩ := h
    rfl
  · obtain ⟨s', pw, how, want, rs, rfl, hsite, hW, hA, hnz, h8, hh, q⟩ := h
    refine ⟨_, (pss_cons (ps_set (i := 3) scLMost.nd rfl (.inr rfl) pe_dnewK)
(pss_cons (ps_set (i := 4) scLMost.nd rfl (.inr rfl) (pe_callTy (SX.cr_dictT rfl) (by rfl) mDict (by decide +kernel) (pa_cons (pe_call GC hr (by rfl) mC kC bC .nil pass0 (pa_cons (pv 0) (pa_cons pe_int (pa_cons (pv 1) (pa_cons (pv 2) pa_nil))))) pa_nil)))
(C8.pss_cut (ps_for PassesOwn.never rfl (pi_list (pv 0)) (pg_tup rfl (pgs_cons (pg_name (i := 5) scLMost.nd rfl (.inl rfl)) (pgs_cons (pg_name (i := 6) scLMost.nd rfl (.inl rfl)) (pgs_cons (pg_name (i := 7) scLMost.nd rfl (.inl rfl)) pgs_nil))))
  (pss_one (ps_dput (hu_of hr) (pv 3) (pv 6) (pe_op op_cat (pe_dget2 (hu_of hr) (pv 3) (pv 6) (pe_lst pa_nil) ⟨by rfl, by rfl, by rfl, by rfl⟩) (pe_lst (pa_cons (pe_dget (hu_of hr) (pv 4) (pv 5) (fun _ _ => rfl)) pa_nil))) rfl)))
(pss_cons (ps_if (pt_cmpR op_eq (pv 2) pe_str (nomark _))
  (pss_one (ps_ret (pe_callB (cr_max rfl) (by rfl) X.max (by decide +kernel) (pa_cons (pe_op op_cat (pe_lst (pa_cons pe_int pa_nil)) (pe_lock (pe_lc (own := [("_law_yard", 6)]) (g := (gName 6)) (tt := tYes) rfl scLMost.nd (pi_keys (pv 3)) (blkOk_by (own := [("_law_yard", 6)]) (N := n_scLMost) (sc := defScope s_scLMost) (by decide +kernel)) (fun _ _ _ _ _ => (pg_name (i := 6) scLMost.nd rfl (.inl rfl))) (fun _ _ _ _ _ => pts_nil) (fun _ _ _ _ _ => (pe_callB (r := rSum K) (cr_sum rfl) (by rfl) mSum (by decide +kernel) (pa_cons (pe_dget (hu_of hr) (pv 3) (pv 6) (fun _ _ => rfl)) pa_nil)))))) pa_nil))))
  pss_nil)
(pss_cons (ps_if (pt_cmpR op_eq (pv 2) pe_str (nomark _))
  (pss_one (ps_ret (pe_callB call_len_seq (by rfl) X.len PySem.boot_len (pa_cons (pe_lock (pe_lc (own := [("_law_yard", 6)]) (g := (gName 6)) (tt := tTest (tOp (rI0 fun i j => .bl (decide (j < i))) (tCB (rMax K) (tCons (tDGet (tVar 3) (tVar 6)) tNil)) (tC (.int 0)))) rfl scLMost.nd (pi_keys (pv 3)) (blkOk_by (own := [("_law_yard", 6)]) (N := n_scLMost) (sc := defScope s_scLMost) (by decide +kernel)) (fun _ _ _ _ _ => (pg_name (i := 6) scLMost.nd rfl (.inl rfl))) (fun _ _ _ _ _ => pts_one (pt_cmpR op_gt (pe_callB (r := rMax K) (cr_max rfl) (by rfl) X.max (by decide +kernel) (pa_cons (pe_dget (hu_of hr) (pv 3) (pv 6) (fun _ _ => rfl)) pa_nil)) pe_int (nomark _))) (fun _ _ _ _ _ => (pv 6)))) pa_nil))))
  pss_nil)
(pss_one (ps_ret (pe_callB (cr_sum rfl) (by rfl) mSum (by decide +kernel) (pa_cons (pe_lock (pe_lc (own := [("_law_house", 5)]) (g := (gName 5)) (tt := tYes) rfl scLMost.nd (pi_keys (pv 4)) (blkOk_by (own := [("_law_house", 5)]) (N := n_scLMost) (sc := defScope s_scLMost) (by decide +kernel)) (fun _ _ _ _ _ => (pg_name (i := 5) scLMost.nd rfl (.inl rfl))) (fun _ _ _ _ _ => pts_nil) (fun _ _ _ _ _ => (pe_dget (hu_of hr) (pv 4) (pv 5) (fun _ _ => rfl))))) pa_nil))))))))), ?_⟩
    have hnz' : ∃ n ∈ want, 0 < n := by
      obtain ⟨n, hn, nz⟩ := hnz
      exact ⟨n, hn, by have := (hA n hn).1; omega⟩
    have m60 : 0 ≤ mostOf how 60 ∧ mostOf how 60 ≤ 60 := by
      unfold mostOf
      split <;> decide
    have b60 : ∀ r ∈ rs, 0 ≤ cnt (mostOf how 60) want r.left ∧ cnt (mostOf how 60) want r.left ≤ 60 := fun r hr' => by
      obtain ⟨_, _, _, _, _, hall⟩ := hsite
      obtain ⟨al, ll, _⟩ := hall r hr'
      have hne := quots_ne want r.left ll.symm hnz'
      obtain ⟨a1, _⟩ := least_mem hne
      have := quots_nn want r.left (fun y hy => (al y hy).1) _ a1
      unfold cnt
      split <;> constructor <;> omega
    have bOf : ∀ y, ∀ x ∈ cOf (fun r => cnt (mostOf how 60) want r.left) rs y, 0 ≤ x ∧ x ≤ 60 := fun y x hx => by
      obtain ⟨r, hr', rfl⟩ := List.mem_map.mp hx
      exact b60 r (List.mem_filter.mp hr').1
    have lOf : ∀ y, (cOf (fun r => cnt (mostOf how 60) want r.left) rs y).length ≤ rs.length := fun y => by
      unfold cOf
      rw [List.length_map]
      exact List.length_filter_le _ _
    obtain ⟨us, hs1, hs2, hnd, h40, hall⟩ := _root_.id hsite
    have lus : us.length = rs.length := hs2.len
    intro d nd
    have s1 : Same H (upd H d (.dK [])) := same_upd nd
    refine ⟨_, rfl, _, rfl, _, rfl, s', pw, 60, how, want, rs, rfl, hsite.same s1, s1 _ _ hW, hA, hnz, h8, by decide, by decide, hh, fun p rs' H2 rp so s2 np hp => ?_⟩
    have ed2 : H2 d = some (.dK []) := s2 _ _ upd_same
    obtain ⟨vs, fz, pv'⟩ := hp
    obtain ⟨ts, ets, pts⟩ := pv'.paired (K := K)
    refine ⟨p, ts, _, rfl, by rw [← ets]; exact fz, pts, fun rm nrm => ?_⟩
    rw [rows_kvs, merge_ndP _ [] (by rw [List.nil_append, kvsC_keys]; exact inr_nd ((rp.map _).nodup_iff.mpr hnd)), List.nil_append]
    have s3 : Same H (upd H2 rm (.dK (kvsC (mostOf how 60) want rs'))) := (s1.trans s2).trans (same_upd nrm)
    have ed3 : upd H2 rm (.dK (kvsC (mostOf how 60) want rs')) d = some (.dK []) := same_upd nrm _ _ ed2
    have er3 : upd H2 rm (.dK (kvsC (mostOf how 60) want rs')) rm = some (.dK (kvsC (mostOf how 60) want rs')) := upd_same
    have rmd : rm ≠ d := fun z => by rw [z, ed2] at nrm; cases nrm
    generalize upd H2 rm (.dK (kvsC (mostOf how 60) want rs')) = H3 at s3 ed3 er3 ⊢
    have nd' : (rs'.map (·.name)).Nodup := (rp.map _).nodup_iff.mpr hnd
    refine ⟨fun σ H' => ∃ y5 y6 y7 kvs, σ = [some (.ref s'), some (.ref pw), some (.str how), some (.ref d), some (.ref rm), y5, y6, y7] ∧ Same H H' ∧ H' rm = some (.dK (kvsC (mostOf how 60) want rs')) ∧ H' d = some (.dK kvs) ∧ ByOk H' d (fun r => cnt (mostOf how 60) want r.left) rs kvs, ?_, fun σ H4 p4 => ?_⟩
    · refine ⟨_, rfl, s', rfl, ⟨_, SqL.of (s3 _ _ hs1)⟩, ?_⟩
      refine for_list (xs := us) (fun i σ H' => ∃ y5 y6 y7 kvs, σ = [some (.ref s'), some (.ref pw), some (.str how), some (.ref d), some (.ref rm), y5, y6, y7] ∧ Same H H' ∧ H' rm = some (.dK (kvsC (mostOf how 60) want rs')) ∧ H' d = some (.dK kvs) ∧ ByOk H' d (fun r => cnt (mostOf how 60) want r.left) (rs.take i) kvs)
        ⟨none, none, none, [], rfl, s3, er3, ed3, .nil, (fun k hk => by cases hk), (fun y hy => by simp at hy), Nat.zero_le _⟩ (fun i σ H' _ p => ?_) (fun i x σ H' hx p => ?_) (fun σ H' p => ?_)
      · obtain ⟨_, _, _, _, _, p1, _⟩ := p
        exact SqL.of (p1 _ _ hs1)
      · obtain ⟨y5, y6, y7, kvs, rfl, p1, p2, p3, bo⟩ := p
        obtain ⟨hps, ps1, ps2, ps3⟩ := houses_pairs hs2
        rw [← ps1, List.getElem?_map] at hx
        cases hw : hps[i]? with
        | none => rw [hw] at hx; cases hx
        | some wv =>
          rw [hw] at hx
          have hx : wv.1 = x := Option.some.inj hx
          have hri : rs[i]? = some wv.2 := by rw [← ps2, List.getElem?_map, hw]; rfl
          have hi : i < rs.length := (List.getElem?_eq_some_iff.mp hri).1
          have hmr : wv.2 ∈ rs := List.mem_of_getElem? hri
          have ha : HouseAt H' x wv.2 := by rw [← hx]; exact (ps3 wv (List.mem_of_getElem? hw)).same p1
          obtain ⟨t, l, rfl, h1, h2⟩ := ha
          have etk : rs.take (i + 1) = rs.take i ++ [wv.2] := by rw [List.take_add_one, hri]; rfl
          have gd : ∀ {Hz : Hp}, Same H' Hz → DGet Hz rm (.str wv.2.name) (some (.int (cnt (mostOf how 60) want wv.2.left))) := fun {Hz} sz => by
            have g := DGet.k (H := Hz) (a := rm) (k := (Sum.inr wv.2.name : Key)) (sz _ _ p2)
            rw [valV_C nd' (rp.mem_iff.mpr hmr)] at g
            exact g
          have lk : kvs.length ≤ 40 := by
            have := bo.few
            rw [List.length_take] at this
            omega
          have step : ∀ (Hz : Hp) (pl : Addr), Same H' Hz → H' pl = none → Hz pl = some (.lst ((cOf (fun r => cnt (mostOf how 60) want r.left) (rs.take (i + 1)) wv.2.yard).map V.int)) →
              ByOk (upd Hz d (.dK (putK kvs (.inr wv.2.yard) (.ref pl)))) d (fun r => cnt (mostOf how 60) want r.left) (rs.take (i + 1)) (putK kvs (.inr wv.2.yard) (.ref pl)) := fun Hz pl sz npl epl => by
            have pld : pl ≠ d := fun z => by rw [z, p3] at npl; cases npl
            have hk2 := @put_keys kvs (.inr wv.2.yard) (.ref pl)
            refine ⟨?_, fun k hk => ?_, fun y hy => ?_, ?_⟩
            · by_cases hin : (Sum.inr wv.2.yard : Key) ∈ kvs.map (·.1)
              · rw [hk2.1 hin]; exact bo.nd
              · rw [hk2.2 hin, List.nodup_append]
                exact ⟨bo.nd, by simp, fun a ha b hb z => hin (by rw [← List.mem_singleton.mp hb, ← z]; exact ha)⟩
            · rw [etk, List.map_append]
              by_cases hin : (Sum.inr wv.2.yard : Key) ∈ kvs.map (·.1)
              · rw [hk2.1 hin] at hk
                obtain ⟨y, e, m⟩ := bo.key k hk
                exact ⟨y, e, List.mem_append_left _ m⟩
              · rw [hk2.2 hin] at hk
                rcases List.mem_append.mp hk with z | z
                · obtain ⟨y, e, m⟩ := bo.key k z
                  exact ⟨y, e, List.mem_append_left _ m⟩
                · exact ⟨wv.2.yard, List.mem_singleton.mp z, List.mem_append_right _ (by simp)⟩
            · by_cases hyy : y = wv.2.yard
              · subst hyy
                refine ⟨pl, by rw [valV_put, if_pos rfl], ?_, pld⟩
                rw [upd_ne pld]
                exact epl
              · rw [etk, List.map_append] at hy
                have hy' : y ∈ (rs.take i).map (·.yard) := by
                  rcases List.mem_append.mp hy with z | z
                  · exact z
                  · exact absurd (by simpa using z) hyy
                obtain ⟨a, e1, e2, e3⟩ := bo.val y hy'
                refine ⟨a, by rw [valV_put, if_neg (fun z => hyy (Sum.inr.inj z))]; exact e1, ?_, e3⟩
                rw [upd_ne e3, etk, cOf_snoc, if_neg (fun z => hyy z.symm), List.append_nil]
                exact sz _ _ e2
            · have := length_putK kvs (.inr wv.2.yard) (.ref pl)
              rw [etk, List.length_append]
              have h3 := bo.few
              simp only [List.length_cons, List.length_nil]
              omega
          refine ⟨t, [.str wv.2.name, .str wv.2.yard, .ref l], rfl, SqT.of h1, rfl, .str wv.2.name, [.str wv.2.yard, .ref l], rfl, .str wv.2.yard, [.ref l], rfl, .ref l, [], rfl, rfl, ?_⟩
          refine ⟨_, rfl, d, rfl, .inl ⟨_, .inl p3⟩, _, rfl, by show 0 ≤ sizeLine; decide, fun l0 n0 => ?_⟩
          have s0 : Same H' (upd H' l0 (.lst [])) := same_upd n0
          have dg := DGet.k (H := upd H' l0 (.lst [])) (a := d) (k := (Sum.inr wv.2.yard : Key)) (s0 _ _ p3)
          refine ⟨_, dg, ?_⟩
          obtain ⟨la, ela, hla⟩ : ∃ la, (valV kvs (Sum.inr wv.2.yard : Key)).getD (.ref l0) = .ref la ∧ upd H' l0 (.lst []) la = some (.lst ((cOf (fun r => cnt (mostOf how 60) want r.left) (rs.take i) wv.2.yard).map V.int)) := by
            by_cases hin : wv.2.yard ∈ (rs.take i).map (·.yard)
            · obtain ⟨a, e1, e2, _⟩ := bo.val _ hin
              exact ⟨a, by rw [e1]; rfl, s0 _ _ e2⟩
            · have hno : valV kvs (Sum.inr wv.2.yard : Key) = none := by
                cases e : valV kvs (Sum.inr wv.2.yard : Key) with
                | none => rfl
                | some v =>
                  obtain ⟨y, e2, m⟩ := bo.key _ (valV_in e)
                  rw [Sum.inr.inj e2] at hin
                  exact absurd m hin
              exact ⟨l0, by rw [hno]; rfl, by rw [cOf_none hin]; exact upd_same⟩
          rw [ela]
          refine ⟨_, rfl, _, rfl, rm, _, rfl, gd s0, by show 1 ≤ sizeLine; decide, fun l1 n1 => ?_⟩
          have s01 := s0.trans (same_upd (o := .lst [V.int (cnt (mostOf how 60) want wv.2.left)]) n1)
          refine ⟨la, l1, _, _, rfl, rfl, same_upd n1 _ _ hla, upd_same, ?_, fun pl npl => ?_⟩
          · have h1 : (cOf (fun r => cnt (mostOf how 60) want r.left) (rs.take i) wv.2.yard).length ≤ 40 := by
              unfold cOf
              rw [List.length_map]
              have := List.length_filter_le (fun r : House => decide (r.yard = wv.2.yard)) (rs.take i)
              rw [List.length_take] at this
              omega
            rw [List.length_map]
            exact Nat.le_of_lt (small1000 (by simp only [List.length_cons, List.length_nil]; omega))
          have s02 := s01.trans (same_upd (o := .lst ((cOf (fun r => cnt (mostOf how 60) want r.left) (rs.take i) wv.2.yard).map V.int ++ [V.int (cnt (mostOf how 60) want wv.2.left)])) npl)
          refine ⟨_, rfl, _, rfl, d, _, rfl, DPut.k (k := (Sum.inr wv.2.yard : Key)) (s02 _ _ p3) (small1000 (by omega)), ?_⟩
          refine ⟨_, _, _, _, rfl, same_putA (p1.trans s02) nd, ?_, upd_same, step _ pl s02 (s01.free npl) ?_⟩
          · rw [upd_ne rmd]
            exact s02 _ _ p2
          · rw [upd_same, etk, cOf_snoc, if_pos rfl, List.map_append]
            rfl
      · obtain ⟨y5, y6, y7, kvs, rfl, p1, p2, p3, bo⟩ := p
        rw [lus, List.take_of_length_le (Nat.le_refl _)] at bo
        exact ⟨y5, y6, y7, kvs, rfl, p1, p2, p3, bo⟩
    · obtain ⟨y5, y6, y7, kvs, rfl, s4, er4, ed4, bo⟩ := p4
      obtain ⟨ks, ek, knd, kmem, klen⟩ := bo.keys
      have lk : kvs.length ≤ 40 := Nat.le_trans bo.few h40
      have vget : ∀ (i : Nat) (k : Key) (v : V), kvs[i]? = some (k, v) → ∃ y a, ks[i]? = some y ∧ k = .inr y ∧ v = .ref a ∧ y ∈ rs.map (·.yard) ∧ valV kvs (.inr y) = some (.ref a) ∧ H4 a = some (.lst ((cOf (fun r => cnt (mostOf how 60) want r.left) rs y).map V.int)) ∧ a ≠ d := fun i k v e => by
        have e1 : (kvs.map (·.1))[i]? = some k := by rw [List.getElem?_map, e]; rfl
        rw [ek, List.getElem?_map] at e1
        cases e2 : ks[i]? with
        | none => rw [e2] at e1; cases e1
        | some y =>
          rw [e2] at e1
          have e3 : Sum.inr y = k := Option.some.inj e1
          have hy := (kmem y).mp (List.mem_of_getElem? e2)
          obtain ⟨a, v1, v2, v3⟩ := bo.val y hy
          have v4 := valV_get bo.nd e
          rw [← e3, v1] at v4
          exact ⟨y, a, rfl, e3.symm, (Option.some.inj v4).symm, hy, v1, v2, v3⟩
      refine ⟨_, rfl, rfl, _, rfl, ite2 (fun z => ?_) (fun z => ?_)⟩
      · have z1 : how = "near" := V.str.inj (of_decide_eq_true z)
        have em : mostOf how 60 = 60 := by rw [z1]; rfl
        refine ⟨by show 1 ≤ sizeLine; decide, fun l0 n0 => ?_⟩
        have s5 : Same H4 (upd H4 l0 (.lst [V.int 0])) := same_upd n0
        have e05 : upd H4 l0 (.lst [V.int 0]) l0 = some (.lst [V.int 0]) := upd_same
        generalize upd H4 l0 (.lst [V.int 0]) = H5 at s5 e05 ⊢
        have l0d : l0 ≠ d := fun z => by rw [z, ed4] at n0; cases n0
        refine ⟨d, _, s5 _ _ ed4, trivial, fun od => ?_⟩
        have ed6 : upd H5 d (.frz od (.dK kvs)) d = some (.frz od (.dK kvs)) := upd_same
        have s6 : Same H (upd H5 d (.frz od (.dK kvs))) := same_putA (s4.trans s5) nd
        have e06 : upd H5 d (.frz od (.dK kvs)) l0 = some (.lst [V.int 0]) := by rw [upd_ne l0d]; exact e05
        have g6 : ∀ a o, a ≠ d → H4 a = some o → upd H5 d (.frz od (.dK kvs)) a = some o := fun a o na e => by rw [upd_ne na]; exact s5 _ _ e
        generalize upd H5 d (.frz od (.dK kvs)) = H6 at ed6 s6 e06 g6 ⊢
        refine ⟨_, rfl, d, od, rfl, .inl ⟨_, ed6, fun D nD => ?_⟩⟩
        have Dd : D ≠ d := fun z => by rw [z, ed6] at nD; cases nD
        refine lc_it walk_keys (fun i H' => Same H6 H' ∧ H' D = some (.lst (((ks.take i).map fun y => (cOf (fun r => cnt (mostOf how 60) want r.left) rs y).sum).map V.int))) ⟨same_upd nD, upd_same⟩ (fun i H' _ p => p.1 _ _ ed6) (fun i x H7o H7 hi p y => ?_) (fun H7 p => ?_)
        · obtain ⟨p1, p2⟩ := p
          obtain ⟨rfl, key, v, hkv, rfl⟩ := y
          obtain ⟨y, a, hy1, rfl, rfl, hym, hv1, hv2, had⟩ := vget i key v hkv
          have hi' : i < ks.length := (List.getElem?_eq_some_iff.mp hy1).1
          refine ⟨rfl, ?_⟩
          have gd : DGet H7 d (.str y) (some (.ref a)) := .inl ⟨kvs, .inr y, .inr ⟨od, p1 _ _ ed6⟩, rfl, hv1.symm⟩
          refine ⟨_, rfl, _, rfl, d, _, rfl, gd, a, _, rfl, SqL.of (p1 _ _ (g6 a _ had hv2)), _, p2, ?_, same_putA p1 nD, ?_⟩
          · rw [List.length_map, List.length_map, List.length_take]
            exact small1000 (by omega)
          · rw [upd_same, List.take_add_one, hy1, List.map_append, List.map_append]
            rfl
        · obtain ⟨p1, p2⟩ := p
          rw [← klen, List.take_of_length_le (Nat.le_refl _)] at p2
          refine ⟨p1 _ _ ed6, ?_⟩
          refine ⟨l0, D, _, _, rfl, rfl, by rw [upd_ne l0d]; exact p1 _ _ e06, by rw [upd_ne Dd]; exact p2, ?_, fun pl npl => ?_⟩
          · rw [List.length_map, List.length_map]
            exact Nat.le_of_lt (small1000 (by simp only [List.length_cons, List.length_nil]; omega))
          refine ⟨pl, 0 :: ks.map (fun y => (cOf (fun r => cnt (mostOf how 60) want r.left) rs y).sum), rfl, SqL.of upd_same, Nat.succ_pos _, fun m hm1 hm2 => ?_⟩
          have sum_b : ∀ y, 0 ≤ (cOf (fun r => cnt (mostOf how 60) want r.left) rs y).sum ∧ (cOf (fun r => cnt (mostOf how 60) want r.left) rs y).sum ≤ 2400 := fun y => by
            have := sum_le60 _ (bOf y)
            have := lOf y
            constructor <;> omega
          have h0 := hm2 0 List.mem_cons_self
          refine q m _ ((same_putA (s6.trans p1) nd).trans (same_upd npl)) ?_ h0 ?_
          · unfold MostIs
            rw [if_pos z1]
            rw [em] at hm1 hm2
            refine ⟨h0, fun y hy => hm2 _ (List.mem_cons_of_mem _ (List.mem_map.mpr ⟨y, (kmem y).mpr hy, rfl⟩)), ?_⟩
            rcases List.mem_cons.mp hm1 with e | e
            · exact .inl e
            · obtain ⟨y, hy, e⟩ := List.mem_map.mp e
              exact .inr ⟨y, (kmem y).mp hy, e.symm⟩
          · rcases List.mem_cons.mp hm1 with e | e
            · omega
            · obtain ⟨y, hy, e⟩ := List.mem_map.mp e
              have := sum_b y
              omega
      · have z1 : ¬ how = "near" := fun e => z (decide_eq_true (by rw [e]))
        refine ⟨_, rfl, rfl, _, rfl, ite2 (fun y => ?_) (fun y => ?_)⟩
        · have y1 : how = "wide" := V.str.inj (of_decide_eq_true y)
          have em : mostOf how 60 = 1 := by rw [y1]; rfl
          refine ⟨d, _, ed4, trivial, fun od => ?_⟩
          have ed6 : upd H4 d (.frz od (.dK kvs)) d = some (.frz od (.dK kvs)) := upd_same
          have s6 : Same H (upd H4 d (.frz od (.dK kvs))) := same_putA s4 nd
          have g6 : ∀ a o, a ≠ d → H4 a = some o → upd H4 d (.frz od (.dK kvs)) a = some o := fun a o na e => by rw [upd_ne na]; exact e
          generalize upd H4 d (.frz od (.dK kvs)) = H6 at ed6 s6 g6 ⊢
          refine ⟨_, rfl, d, od, rfl, .inl ⟨_, ed6, fun D nD => ?_⟩⟩
          have Dd : D ≠ d := fun z => by rw [z, ed6] at nD; cases nD
          have lfil : ∀ i, ((ks.take i).filter fun y => (cOf (fun r => cnt (mostOf how 60) want r.left) rs y).any fun n => decide (0 < n)).length ≤ 40 := fun i => by
            have := List.length_filter_le (fun y => (cOf (fun r => cnt (mostOf how 60) want r.left) rs y).any fun n => decide (0 < n)) (ks.take i)
            rw [List.length_take] at this
            omega
          refine lc_it walk_keys (fun i H' => Same H6 H' ∧ H' D = some (.lst (((ks.take i).filter fun y => (cOf (fun r => cnt (mostOf how 60) want r.left) rs y).any fun n => decide (0 < n)).map V.str))) ⟨same_upd nD, upd_same⟩ (fun i H' _ p => p.1 _ _ ed6) (fun i x H7o H7 hi p y => ?_) (fun H7 p => ?_)
          · obtain ⟨p1, p2⟩ := p
            obtain ⟨rfl, key, v, hkv, rfl⟩ := y
            obtain ⟨y, a, hy1, rfl, rfl, hym, hv1, hv2, had⟩ := vget i key v hkv
            have hi' : i < ks.length := (List.getElem?_eq_some_iff.mp hy1).1
            have tk : (ks.take (i + 1)).filter (fun y => (cOf (fun r => cnt (mostOf how 60) want r.left) rs y).any fun n => decide (0 < n)) = (ks.take i).filter (fun y => (cOf (fun r => cnt (mostOf how 60) want r.left) rs y).any fun n => decide (0 < n)) ++ (if ((cOf (fun r => cnt (mostOf how 60) want r.left) rs y).any fun n => decide (0 < n)) = true then [y] else []) := by
              rw [List.take_add_one, hy1, List.filter_append]
              congr 1
              show List.filter _ [y] = _
              rw [List.filter_cons]
              rfl
            refine ⟨rfl, ?_⟩
            have gd : DGet H7 d (.str y) (some (.ref a)) := .inl ⟨kvs, .inr y, .inr ⟨od, p1 _ _ ed6⟩, rfl, hv1.symm⟩
            refine ⟨_, rfl, _, rfl, d, _, rfl, gd, a, _, rfl, SqL.of (p1 _ _ (g6 a _ had hv2)), cOf_some hym, fun m hm1 hm2 => ?_⟩
            refine ⟨m, 0, rfl, rfl, _, rfl, ite2 (fun g => ?_) (fun g => ?_)⟩
            · have g1 : 0 < m := of_decide_eq_true g
              refine ⟨_, rfl, _, p2, ?_, same_putA p1 nD, ?_⟩
              · rw [List.length_map]
                exact small1000 (by have := lfil i; omega)
              · rw [upd_same, tk, if_pos (List.any_eq_true.mpr ⟨m, hm1, decide_eq_true g1⟩), List.map_append]
                rfl
            · have g1 : ¬ 0 < m := fun e => g (decide_eq_true e)
              refine ⟨p1, ?_⟩
              rw [tk, if_neg, List.append_nil]
              · exact p2
              · intro e
                obtain ⟨n, hn, e⟩ := List.any_eq_true.mp e
                have := hm2 n hn
                have := of_decide_eq_true e
                omega
          · obtain ⟨p1, p2⟩ := p
            have lf := lfil kvs.length
            rw [← klen, List.take_of_length_le (Nat.le_refl _)] at p2 lf
            refine ⟨p1 _ _ ed6, ?_⟩
            refine ⟨D, _, rfl, .inl (SqL.of (by rw [upd_ne Dd]; exact p2)), ?_⟩
            rw [List.length_map]
            refine q _ _ (same_putA (s6.trans p1) nd) ?_ (by omega) (by omega)
            unfold MostIs
            rw [if_neg z1, if_pos y1]
            refine ⟨ks, knd, kmem, ?_⟩
            rw [em]
        · have y1 : ¬ how = "wide" := fun e => y (decide_eq_true (by rw [e]))
          refine ⟨rm, _, er4, trivial, fun od => ?_⟩
          have nrmH : H rm = none := (s1.trans s2).free nrm
          have ed6 : upd H4 rm (.frz od (.dK (kvsC (mostOf how 60) want rs'))) rm = some (.frz od (.dK (kvsC (mostOf how 60) want rs'))) := upd_same
          have s6 : Same H (upd H4 rm (.frz od (.dK (kvsC (mostOf how 60) want rs')))) := same_putA s4 nrmH
          generalize upd H4 rm (.frz od (.dK (kvsC (mostOf how 60) want rs'))) = H6 at ed6 s6 ⊢
          refine ⟨_, rfl, rm, od, rfl, .inl ⟨_, ed6, fun D nD => ?_⟩⟩
          have Dd : D ≠ rm := fun z => by rw [z, ed6] at nD; cases nD
          have lr : (kvsC (mostOf how 60) want rs').length = rs'.length := by unfold kvsC; rw [List.length_map]
          have lr' : rs'.length ≤ 40 := by rw [rp.length_eq]; exact h40
          refine lc_it walk_keys (fun i H' => Same H6 H' ∧ H' D = some (.lst (((rs'.take i).map fun r => cnt (mostOf how 60) want r.left).map V.int))) ⟨same_upd nD, upd_same⟩ (fun i H' _ p => p.1 _ _ ed6) (fun i x H7o H7 hi p y => ?_) (fun H7 p => ?_)
          · obtain ⟨p1, p2⟩ := p
            obtain ⟨rfl, key, v, hkv, rfl⟩ := y
            rw [lr] at hi
            have hri : rs'[i]? = some rs'[i] := List.getElem?_eq_getElem hi
            have ekv : (key, v) = (.inr rs'[i].name, .int (cnt (mostOf how 60) want rs'[i].left)) := by
              unfold kvsC at hkv
              rw [List.getElem?_map, hri] at hkv
              exact (Option.some.inj hkv).symm
            cases ekv
            refine ⟨rfl, ?_⟩
            have gd : DGet H7 rm (.str rs'[i].name) (some (.int (cnt (mostOf how 60) want rs'[i].left))) := .inl ⟨_, .inr rs'[i].name, .inr ⟨od, p1 _ _ ed6⟩, rfl, (valV_C nd' (List.getElem_mem hi)).symm⟩
            refine ⟨_, rfl, _, rfl, rm, _, rfl, gd, _, p2, ?_, same_putA p1 nD, ?_⟩
            · rw [List.length_map, List.length_map, List.length_take]
              exact small1000 (by omega)
            · rw [upd_same, List.take_add_one, hri, List.map_append, List.map_append]
              rfl
          · obtain ⟨p1, p2⟩ := p
            rw [lr, List.take_of_length_le (Nat.le_refl _)] at p2
            refine ⟨p1 _ _ ed6, ?_⟩
            refine ⟨D, _, rfl, SqL.of (by rw [upd_ne Dd]; exact p2), ?_⟩
            have e : (rs'.map fun r => cnt (mostOf how 60) want r.left).sum = (rs.map fun r => cnt (mostOf how 60) want r.left).sum := sum_perm (rp.map _)
            rw [e]
            have bb := sum_le60 (rs.map fun r => cnt (mostOf how 60) want r.left) fun x hx => by
              obtain ⟨r, hr', rfl⟩ := List.mem_map.mp hx
              exact b60 r hr'
            rw [List.length_map] at bb
            refine q _ _ (same_putA (s6.trans p1) nrmH) ?_ bb.1 (by omega)
            unfold MostIs
            rw [if_neg z1, if_neg y1]
end
end My

set_option maxHeartbeats 1000000
namespace My
open PySem PySem.Spec PyProof.Rows L2 GX GxR
abbrev s_scLMany : Stmt := topS 28
abbrev n_scLMany : List Str := ["_law_box_here", "_law_site_here", "_law_want_here", "_law_how", "_law_most_here", "_law_some"]
theorem scLMany : FnScope n_scLMany ["_law_box_here", "_law_site_here", "_law_want_here", "_law_how"] (defScope s_scLMany) := ⟨rfl, rfl, rfl, by decide +kernel, rfl, by decide +kernel, by decide +kernel⟩
def spLMany : Sp := fun vs H Q _ => ∃ (b s pw : Addr) (c : Int) (how : Str) (want : List Int) (rs : List House), vs = [.ref b, .ref s, .ref pw, .str how] ∧ BoxAt H b c ∧ c ≤ 1000000 ∧ SiteAt want.length H s rs ∧ H pw = some (.tup (want.map V.int)) ∧ Amt want ∧ (∃ n ∈ want, n ≠ 0) ∧ want.length ≤ 8 ∧ how ∈ Hows ∧
  ∀ (m : Int) (H' : Hp), 1 ≤ m → m ≤ 60 → Kp [b] H H' → BoxAt H' b (c + 1 + 1 + 1) → Q (.int m) H'
section
variable {P : Program} {w : World} {K : PySem.W.Frag} {mg : Str → Option Value} {base : Heap}
theorem ok_lmany {f fO fT : Addr} {fd fdO fdT : FuncData} {k : Nat} (F : Fun K "_law_many" "_law_many" s_scLMany f fd) (X : Txt mg)
    (GO : FnOk P w K mg base CX0 k fO fdO ["_law_site_here", "_law_want_here", "_law_how"] spLMost) (mO : mg "_law_most" = some (.ref fO)) (kO : PySem.W.keepIn K (.ref fO) = true) (bO : Binds K fdO ["_law_site_here", "_law_want_here", "_law_how"] [])
    (GT : FnOk P w K mg base CX0 k fT fdT ["_law_box_here", "_law_many_here"] spTakeW) (mT : mg "_law_take" = some (.ref fT)) (kT : PySem.W.keepIn K (.ref fT) = true) (bT : Binds K fdT ["_law_box_here", "_law_many_here"] []) :
    FnOk P w K mg base CX0 (k + 1) f fd ["_law_box_here", "_law_site_here", "_law_want_here", "_law_how"] spLMany := by
  refine F.ok scLMany (fun vs H Q E h => ?_) (fun cdv A outer s H vs Q E hr h => ?_)
  · obtain ⟨b, s, pw, c, how, want, rs, rfl, _⟩ := h
    rfl
  · obtain ⟨b, s', pw, c, how, want, rs, rfl, hB, hc, hsite, hW, hA, hnz, h8, hh, q⟩ := h
    refine ⟨_, (pss_cons (ps_set (i := 4) scLMany.nd rfl (.inl rfl) (pe_call GO hr (by rfl) mO kO bO .nil pass0 (pa_cons (pv 1) (pa_cons (pv 2) (pa_cons (pv 3) pa_nil)))))
(pss_cons (ps_set (i := 5) scLMany.nd rfl (.inl rfl) (pe_lst (pa_cons (pv 4) (pa_cons (pe_op op_add (pv 4) pe_int) (pa_cons (pe_op op_sub (pv 4) pe_int) (pa_cons (pe_op op_add pe_int (pe_call GT hr (by rfl) mT kT bT .nil pass0 (pa_cons (pv 0) (pa_cons pe_int pa_nil)))) (pa_cons (pe_op op_add pe_int (pe_call GT hr (by rfl) mT kT bT .nil pass0 (pa_cons (pv 0) (pa_cons pe_int pa_nil)))) pa_nil)))))))
(pss_one (ps_ret (pe_callB (call_min2 rfl) (by rfl) X.min (by decide +kernel) (pa_cons pe_int (pa_cons (pe_callB (call_max2 rfl) (by rfl) X.max (by decide +kernel) (pa_cons pe_int (pa_cons (pe_ix ix_list (pv 5) (pe_call GT hr (by rfl) mT kT bT .nil pass0 (pa_cons (pv 0) (pa_cons pe_int pa_nil))) (fun _ _ => rfl)) pa_nil))) pa_nil))))))), ?_⟩
    refine ⟨_, rfl, _, rfl, _, rfl, s', pw, how, want, rs, rfl, hsite, hW, hA, hnz, h8, hh, fun m H1 s1 _ m0 mb => ?_⟩
    have B1 := hB.same s1
    refine ⟨_, rfl, _, rfl, m, 1, rfl, rfl, _, rfl, m, 1, rfl, rfl, ?_⟩
    refine ⟨_, rfl, b, c, 6, rfl, B1, by decide, by decide, by omega, fun u1 H2 u10 u11 k2 B2 => ⟨1, u1, rfl, rfl, ?_⟩⟩
    refine ⟨_, rfl, b, _, 60, rfl, B2, by decide, by decide, by omega, fun u2 H3 u20 u21 k3 B3 => ⟨1, u2, rfl, rfl, by show 5 ≤ sizeLine; decide, fun l nl => ?_⟩⟩
    refine ⟨_, rfl, _, rfl, b, _, 5, rfl, B3.same (same_upd nl), by decide, by decide, by omega, fun r H4 r0 r1 k4 B4 => ?_⟩
    obtain ⟨v, hx⟩ : ∃ v : Int, atI [V.int m, .int (m + 1), .int (m - 1), .int (1 + u1), .int (1 + u2)] r = some (.int v) := by
      have h5 : r = 0 ∨ r = 1 ∨ r = 2 ∨ r = 3 ∨ r = 4 := by omega
      rcases h5 with z | z | z | z | z <;> rw [z]
      · exact ⟨m, rfl⟩
      · exact ⟨m + 1, rfl⟩
      · exact ⟨m - 1, rfl⟩
      · exact ⟨1 + u1, rfl⟩
      · exact ⟨1 + u2, rfl⟩
    refine ⟨l, _, r, .int v, rfl, rfl, SqL.of (k4 _ _ (box_new B3 nl) upd_same), hx, ?_⟩
    refine ⟨1, v, rfl, 60, _, rfl, ?_⟩
    have kk : Kp [b] H H4 := (kp_new ((Same.kp _ s1).trans (k2.trans k3)) nl).trans k4
    refine q _ H4 ?_ ?_ kk B4
    · split <;> split <;> omega
    · split <;> split <;> omega
end
end My

set_option maxHeartbeats 1000000
/-! the names of a placing -/
namespace My
open PySem PySem.W PySem.Spec PyProof.Rows L2 GX GxR
theorem fill_sub : ∀ (ps l : List (Str × Int)) (w : Int), ∃ sub : List Str, sub.Sublist (ps.map (·.1)) ∧ (ps.foldl fillStep (l, w)).1.map (·.1) = l.map (·.1) ++ sub
  | [], l, w => ⟨[], .slnil, by simp⟩
  | q :: ps, l, w => by
    rw [List.foldl_cons]
    by_cases h : 0 < min q.2 w
    · have e : fillStep (l, w) q = (l ++ [(q.1, min q.2 w)], w - min q.2 w) := by
        unfold fillStep
        rw [if_pos h]
      obtain ⟨sub, h1, h2⟩ := fill_sub ps (l ++ [(q.1, min q.2 w)]) (w - min q.2 w)
      refine ⟨q.1 :: sub, h1.cons_cons _, ?_⟩
      rw [e, h2, List.map_append, List.append_assoc]
      rfl
    · have e : fillStep (l, w) q = (l, w) := by
        unfold fillStep
        rw [if_neg h]
      obtain ⟨sub, h1, h2⟩ := fill_sub ps l w
      exact ⟨sub, h1.cons _, by rw [e, h2]⟩
theorem place_names {many : Int} {ps made : List (Str × Int)} (h : placeOf many ps = some made) : (made.map (·.1)).Sublist (ps.map (·.1)) := by
  unfold placeOf at h
  split at h
  · cases h
  · cases h
    obtain ⟨sub, h1, h2⟩ := fill_sub ps [] many
    unfold fillAll
    rw [h2]
    exact h1
theorem firstFor_mem {many : Int} : ∀ (gs : List (List (Str × Int))), firstFor many gs = [] ∨ firstFor many gs ∈ gs
  | [] => .inl rfl
  | g :: gs => by
    show (if many ≤ tasksOf g then g else firstFor many gs) = [] ∨ (if many ≤ tasksOf g then g else firstFor many gs) ∈ g :: gs
    split
    · exact .inr List.mem_cons_self
    · exact (firstFor_mem gs).imp _root_.id (List.mem_cons_of_mem _)
theorem firsts_mem {yd : Str → Str} {ps : List (Str × Int)} {ys : List Str} {q : Str × Int} (h : q ∈ firstsOf (groupsY yd ps ys)) : q ∈ ps ∧ yd q.1 ∈ ys := by
  unfold firstsOf groupsY at h
  obtain ⟨g, hg, hq⟩ := List.mem_flatMap.mp h
  obtain ⟨y, hy, rfl⟩ := List.mem_map.mp hg
  obtain ⟨h1, h2⟩ := List.mem_filter.mp (List.mem_filter.mp (List.mem_of_mem_take hq)).1
  exact ⟨h1, by rw [of_decide_eq_true h2]; exact hy⟩
theorem toFill_mem {how : Str} {many : Int} {yd : Str → Str} {ys : List Str} {ps : List (Str × Int)} : ∀ q ∈ toFill how many yd ys ps, q ∈ ps := by
  intro q hq
  unfold toFill at hq
  split at hq
  · rcases firstFor_mem (many := many) (groupsY yd ps ys) with e | e
    · rw [e] at hq; cases hq
    · obtain ⟨y, _, e2⟩ := List.mem_map.mp e
      rw [← e2] at hq
      exact (List.mem_filter.mp hq).1
  · split at hq
    · exact (firsts_mem hq).1
    · exact hq
theorem firsts_nd {yd : Str → Str} {ps : List (Str × Int)} : ∀ {ys : List Str}, ys.Nodup → ((firstsOf (groupsY yd ps ys)).map (·.1)).Nodup
  | [], _ => .nil
  | y :: ys, nd => by
    obtain ⟨n1, n2⟩ := List.nodup_cons.mp nd
    have ih := firsts_nd (yd := yd) (ps := ps) n2
    show (((posP (ofY yd ps y)).take 1 ++ firstsOf (groupsY yd ps ys)).map (·.1)).Nodup
    rw [List.map_append, List.nodup_append]
    refine ⟨?_, ih, fun a ha b hb z => ?_⟩
    · cases posP (ofY yd ps y) with
      | nil => exact .nil
      | cons c r => exact List.nodup_cons.mpr ⟨by simp, .nil⟩
    · obtain ⟨x, hx, rfl⟩ := List.mem_map.mp ha
      obtain ⟨x', hx', rfl⟩ := List.mem_map.mp hb
      have h1 := of_decide_eq_true (List.mem_filter.mp (List.mem_filter.mp (List.mem_of_mem_take hx)).1).2
      have h2 := (firsts_mem hx').2
      rw [← z, h1] at h2
      exact n1 h2
theorem toFill_nd {how : Str} {many : Int} {yd : Str → Str} {ys : List Str} {ps : List (Str × Int)} (ny : ys.Nodup) (np : (ps.map (·.1)).Nodup) : ((toFill how many yd ys ps).map (·.1)).Nodup := by
  unfold toFill
  split
  · rcases firstFor_mem (many := many) (groupsY yd ps ys) with e | e
    · rw [e]; exact .nil
    · obtain ⟨y, _, e2⟩ := List.mem_map.mp e
      rw [← e2]
      exact List.Nodup.sublist ((List.filter_sublist).map _) np
  · split
    · exact firsts_nd ny
    · exact np
/-- there is one order of the pairs -/
theorem pairs_uniq {rs xs ys : List (Str × Int)} (nd : (rs.map (·.1)).Nodup) (p : xs.Perm rs) (q : ys.Perm rs) (h : sortedS (xs.map (·.1)) = true) (h' : sortedS (ys.map (·.1)) = true) : xs = ys := by
  have so : ∀ {zs : List (Str × Int)}, sortedS (zs.map (·.1)) = true → zs.Pairwise (fun a b => (fun a b : Str × Int => decide (a.1.cps.toList ≤ b.1.cps.toList)) a b = true) := fun {zs} hs => by
    have := sortedP hs
    rw [List.pairwise_map] at this
    exact this.imp fun z => decide_eq_true z
  refine uniq_sorted (le := fun a b : Str × Int => decide (a.1.cps.toList ≤ b.1.cps.toList)) (p.trans q.symm) (so h) (so h') fun a ha b hb q1 q2 => ?_
  have e : a.1 = b.1 := strxP (List.le_antisymm (of_decide_eq_true q1) (of_decide_eq_true q2))
  exact nodup_inj nd a (p.mem_iff.mp ha) b (p.mem_iff.mp hb) e
end My

set_option maxHeartbeats 1000000
namespace My
open PySem PySem.W PySem.Spec PyProof.Rows L2 GX GxR
/-- there is one order of the names -/
theorem houses_uniq {rs xs ys : List House} (nd : (rs.map (·.name)).Nodup) (p : xs.Perm rs) (q : ys.Perm rs) (h : sortedS (xs.map (·.name)) = true) (h' : sortedS (ys.map (·.name)) = true) : xs = ys := by
  have so : ∀ {zs : List House}, sortedS (zs.map (·.name)) = true → zs.Pairwise (fun a b => (fun a b : House => decide (a.name.cps.toList ≤ b.name.cps.toList)) a b = true) := fun {zs} hs => by
    have := sortedP hs
    rw [List.pairwise_map] at this
    exact this.imp fun z => decide_eq_true z
  refine uniq_sorted (le := fun a b : House => decide (a.name.cps.toList ≤ b.name.cps.toList)) (p.trans q.symm) (so h) (so h') fun a ha b hb q1 q2 => ?_
  have e : a.name = b.name := strxP (List.le_antisymm (of_decide_eq_true q1) (of_decide_eq_true q2))
  exact nodup_inj nd a (p.mem_iff.mp ha) b (p.mem_iff.mp hb) e
theorem layi14 : ∀ ns : List Int, PyData.canLayAll0 (ns.map PyData.int) = true
  | [] => rfl
  | n :: ns => by
    show (PyData.canLay0 (.int n) && PyData.canLayAll0 (ns.map PyData.int)) = true
    rw [layi14 ns]
    rfl
theorem house_lay {r : House} (h1 : PySem.PyData.strOk r.name = true) (h2 : PySem.PyData.strOk r.yard = true) : PyData.canLay0 (houseD r) = true := by
  show (PyData.canLay0 (.str r.name) && (PyData.canLay0 (.str r.yard) && (PyData.canLay0 (.tuple (r.left.map PyData.int)) && PyData.canLayAll0 []))) = true
  show (PySem.PyData.strOk r.name && (PySem.PyData.strOk r.yard && (PyData.canLayAll0 (r.left.map PyData.int) && true))) = true
  rw [h1, h2, layi14]
  rfl
theorem houses_lay : ∀ {rs : List House}, (∀ r ∈ rs, PySem.PyData.strOk r.name = true ∧ PySem.PyData.strOk r.yard = true) → PyData.canLayAll0 (rs.map houseD) = true
  | [], _ => rfl
  | r :: rs, h => by
    show (PyData.canLay0 (houseD r) && PyData.canLayAll0 (rs.map houseD)) = true
    rw [house_lay (h r List.mem_cons_self).1 (h r List.mem_cons_self).2, houses_lay fun x hx => h x (List.mem_cons_of_mem _ hx)]
    rfl
theorem houses_deep : ∀ rs : List House, PyData.depthAll (rs.map houseD) ≤ 50
  | [] => by simp [PyData.depthAll]
  | r :: rs => by
    have h := houses_deep rs
    have h2 := house_depth r
    show max (PyData.depth (houseD r)) (PyData.depthAll (rs.map houseD)) ≤ 50
    omega
theorem houses_sh {rs : List House} (h : ∀ r ∈ rs, PySem.PyData.strOk r.name = true ∧ PySem.PyData.strOk r.yard = true) : SeqAt.shaped (.list (rs.map houseD)) = true := by
  have h1 : PyData.canLay0 (.list (rs.map houseD)) = true := houses_lay h
  have h2 : PyData.depth (.list (rs.map houseD)) ≤ 64 := by
    have := houses_deep rs
    show PyData.depthAll (rs.map houseD) + 1 ≤ 64
    omega
  unfold SeqAt.shaped
  rw [h1]
  simp [h2]
theorem houses_dp {K : PySem.W.Frag} {H : Hp} : ∀ {ps : List (V × House)}, (∀ p ∈ ps, HouseAt H p.1 p.2) → DpAll K H (ps.map (·.1)) ((ps.map (·.2)).map houseD)
  | [], _ => .nil
  | p :: ps, h => .cons (h p List.mem_cons_self).dp (houses_dp fun q hq => h q (List.mem_cons_of_mem _ hq))
theorem SiteAt.fw {n : Nat} {H H' : Hp} {s : Addr} {rs : List House} {Ts : List Addr} (t : Tabs Ts H) (f : Fw Ts H H') (h : SiteAt n H s rs) : SiteAt n H' s rs := by
  obtain ⟨vs, h1, h2, h3⟩ := h
  refine ⟨vs, f.lst t h1, h2.imp fun v r hv => ?_, h3⟩
  obtain ⟨x, l, e, g1, g2⟩ := hv
  exact ⟨x, l, e, f.kt t _ _ g1, f.kt t _ _ g2⟩
theorem rows_ok {most : Int} {want : List Int} {rs : List House} (h : ∀ r ∈ rs, PySem.PyData.strOk r.name = true) : ∀ p ∈ rowsC most want rs, PySem.PyData.strOk p.1 = true := fun p hp => by
  obtain ⟨r, hr, rfl⟩ := List.mem_map.mp hp
  exact h r hr
theorem Houses.cons {H : Hp} {v : V} {r : House} (h : HouseAt H v r) : ∀ {vs : List V} {rs : List House}, Houses H vs rs → Houses H (v :: vs) (r :: rs)
  | _, _, .nil => .snoc .nil h
  | _, _, .snoc t x => .snoc (t.cons h) x
theorem Houses.rev {H : Hp} : ∀ {vs : List V} {rs : List House}, Houses H vs rs → Houses H vs.reverse rs.reverse
  | _, _, .nil => .nil
  | _, _, .snoc t x => by
    rw [List.reverse_append, List.reverse_append]
    exact t.rev.cons x
end My

/-! what is left when all that may be taken are away -/
namespace My
open PySem PySem.Spec PyProof.Rows L2 GX GxR
def goneL (kvs : List (Str × List Int)) (Rs : List (Gang × Int)) (G : Gang) : List Str := (takenL kvs Rs G).map (·.1)
def leftL (kvs : List (Str × List Int)) (Rs : List (Gang × Int)) (G : Gang) : List (Gang × Int) := Rs.filter fun R => !decide (R.1.name ∈ goneL kvs Rs G)
def stays (kvs : List (Str × List Int)) (Rs : List (Gang × Int)) (G F : Gang) : Bool := (groundOf kvs Rs G F).isNone
section
variable {kvs : List (Str × List Int)} {Rs : List (Gang × Int)} {G : Gang}
theorem gone_iff (nd : (Rs.map (·.1.name)).Nodup) {R : Gang × Int} (hR : R ∈ Rs) : (!decide (R.1.name ∈ goneL kvs Rs G)) = stays kvs Rs G R.1 := by
  unfold stays
  cases e : groundOf kvs Rs G R.1 with
  | none =>
    have : R.1.name ∉ goneL kvs Rs G := fun h => by
      obtain ⟨p, hp, ep⟩ := List.mem_map.mp h
      obtain ⟨S, hS, e1, e2⟩ := mem_takenL hp
      have := nodup_inj nd S hS R hR (e1.trans ep)
      rw [this, e] at e2
      cases e2
    rw [decide_eq_false this]
    rfl
  | some z =>
    have : R.1.name ∈ goneL kvs Rs G := by
      refine List.mem_map.mpr ⟨(R.1.name, z), List.mem_flatMap.mpr ⟨R.1, ?_, ?_⟩, rfl⟩
      · exact List.mem_reverse.mpr (List.mem_map.mpr ⟨R, (ord_perm Rs).mem_iff.mpr hR, rfl⟩)
      · unfold takenOf
        rw [e]
        exact List.mem_singleton.mpr rfl
    rw [decide_eq_true this]
    rfl
theorem left_eq (nd : (Rs.map (·.1.name)).Nodup) : leftL kvs Rs G = Rs.filter fun R => stays kvs Rs G R.1 := List.filter_congr fun R hR => gone_iff nd hR
theorem left_guild (nd : (Rs.map (·.1.name)).Nodup) (g : Str) : ofG (leftL kvs Rs G) g = (ofG Rs g).filter fun R => stays kvs Rs G R.1 := by
  rw [left_eq nd]
  unfold ofG
  rw [List.filter_filter, List.filter_filter]
  exact List.filter_congr fun R _ => Bool.and_comm _ _
end
/-- the gangs of a guild, in order -/
def gsOf (Rs : List (Gang × Int)) (g : Str) : List Gang := (ord (ofG Rs g)).map (·.1)
theorem filter_map_fst (p : Gang → Bool) : ∀ xs : List (Gang × Int), (xs.filter fun R => p R.1).map (·.1) = (xs.map (·.1)).filter p
  | [] => rfl
  | x :: xs => by
    rw [List.map_cons]
    by_cases h : p x.1 = true
    · rw [List.filter_cons_of_pos (p := fun R : Gang × Int => p R.1) h, List.filter_cons_of_pos h, List.map_cons, filter_map_fst p xs]
    · rw [List.filter_cons_of_neg (p := fun R : Gang × Int => p R.1) h, List.filter_cons_of_neg h, filter_map_fst p xs]
theorem part_filter {dn : List Int} {p : Gang → Bool} : ∀ {Gs : List Gang} {ld : List Int}, (∀ F ∈ ownOf dn Gs ld, p F = true) →
    ownOf dn (Gs.filter p) ld = ownOf dn Gs ld ∧ lentOf dn (Gs.filter p) ld = (lentOf dn Gs ld).filter p ∧ loadOf dn (Gs.filter p) ld = loadOf dn Gs ld
  | [], _, _ => ⟨rfl, rfl, rfl⟩
  | F :: Gs, ld, h => by
    by_cases hf : fitB (addL ld F.whole) dn = true
    · have e : ownOf dn (F :: Gs) ld = F :: ownOf dn Gs (addL ld F.whole) := by
        show (if _ then _ else _) = _
        rw [if_pos hf]
      rw [e] at h
      obtain ⟨h1, h2, h3⟩ := part_filter (Gs := Gs) (ld := addL ld F.whole) fun K hK => h K (List.mem_cons_of_mem _ hK)
      rw [List.filter_cons_of_pos (h F List.mem_cons_self)]
      simp only [ownOf, lentOf, loadOf, if_pos hf, h1, h2, h3, true_and]
    · have e : ownOf dn (F :: Gs) ld = ownOf dn Gs ld := by
        show (if _ then _ else _) = _
        rw [if_neg hf]
      rw [e] at h
      obtain ⟨h1, h2, h3⟩ := part_filter (Gs := Gs) (ld := ld) h
      by_cases hp : p F = true
      · rw [List.filter_cons_of_pos hp]
        simp only [ownOf, lentOf, loadOf, if_neg hf, h1, h2, h3, List.filter_cons_of_pos hp, true_and]
      · rw [List.filter_cons_of_neg hp]
        simp only [ownOf, lentOf, loadOf, if_neg hf, h1, h2, h3, List.filter_cons_of_neg hp, true_and]
section
variable {kvs : List (Str × List Int)} {Rs : List (Gang × Int)} {G : Gang}
theorem part_left (g2 : Good2 Rs) (g : Str) (dn : List Int) : partRs dn (ofG (leftL kvs Rs G) g) = (ownOf dn ((gsOf Rs g).filter (stays kvs Rs G)) (zeros dn.length), lentOf dn ((gsOf Rs g).filter (stays kvs Rs G)) (zeros dn.length), loadOf dn ((gsOf Rs g).filter (stays kvs Rs G)) (zeros dn.length)) := by
  have nd : ((ofG Rs g).map (·.2)).Nodup := (List.Sublist.map (·.2) (List.filter_sublist (p := fun R : Gang × Int => decide (R.1.guild = g)) (l := Rs))).nodup g2.nums
  rw [partRs_eq, left_guild g2.names, ord_filter nd, filter_map_fst]
  rfl
theorem gs_nodup (g2 : Good2 Rs) (g : Str) : (nm (gsOf Rs g)).Nodup := by
  have h : (nm (gsOf Rs g)).Perm ((ofG Rs g).map (·.1.name)) := by
    unfold nm gsOf
    rw [List.map_map]
    exact (ord_perm (ofG Rs g)).map _
  exact h.nodup_iff.mpr ((List.Sublist.map (·.1.name) (List.filter_sublist (p := fun R : Gang × Int => decide (R.1.guild = g)) (l := Rs))).nodup g2.names)
theorem gs_row {g : Str} {F : Gang} (h : F ∈ gsOf Rs g) : ∃ R ∈ Rs, R.1 = F ∧ F.guild = g := by
  obtain ⟨R, hR, e⟩ := List.mem_map.mp h
  obtain ⟨h1, h2⟩ := List.mem_filter.mp ((ord_perm _).mem_iff.mp hR)
  exact ⟨R, h1, e, by rw [← e]; exact of_decide_eq_true h2⟩
theorem lentG_eq (g : Str) : lentOfG kvs Rs g = nm (lentOf (dueOf kvs g) (gsOf Rs g) (zeros (dueOf kvs g).length)) := by
  unfold lentOfG
  rw [partRs_eq]
  rfl
/-- a lent one is lent, an own one isn't -/
theorem lent_in {g : Str} {F : Gang} (h : F ∈ lentOf (dueOf kvs g) (gsOf Rs g) (zeros (dueOf kvs g).length)) : lentIn kvs Rs F.name = true := by
  obtain ⟨R, hR, e, eg⟩ := gs_row ((lent_sub _ _ _).subset h)
  refine List.any_eq_true.mpr ⟨R, hR, decide_eq_true ?_⟩
  rw [e, eg, lentG_eq]
  exact List.mem_map.mpr ⟨F, h, rfl⟩
theorem own_not (g2 : Good2 Rs) {g : Str} {F : Gang} (h : F ∈ ownOf (dueOf kvs g) (gsOf Rs g) (zeros (dueOf kvs g).length)) : lentIn kvs Rs F.name = false := by
  obtain ⟨R, hR, e, eg⟩ := gs_row ((own_sub _ _ _).subset h)
  cases hl : lentIn kvs Rs F.name with
  | false => rfl
  | true =>
    obtain ⟨S, hS, hz⟩ := List.any_eq_true.mp hl
    have hz := of_decide_eq_true hz
    obtain ⟨S', hS', e1, e2⟩ := lentG_row hz
    have : S' = R := nodup_inj g2.names S' hS' R hR (by show S'.1.name = R.1.name; rw [e2, e])
    rw [this, e, eg] at e1
    rw [← e1, lentG_eq] at hz
    have hf := (filt_own (dn := dueOf kvs g) (ld := zeros (dueOf kvs g).length) (gs_nodup g2 g)).2
    rw [← hf] at hz
    have := (List.mem_filter.mp hz).2
    rw [decide_eq_true (show F.name ∈ nm (ownOf (dueOf kvs g) (gsOf Rs g) (zeros (dueOf kvs g).length)) from List.mem_map.mpr ⟨F, h, rfl⟩)] at this
    cases this
theorem own_stays (g2 : Good2 Rs) {g : Str} (hc : g ≠ G.guild ∨ ownB (dueOf kvs G.guild) (ofG Rs G.guild) G = false) : ∀ F ∈ ownOf (dueOf kvs g) (gsOf Rs g) (zeros (dueOf kvs g).length), stays kvs Rs G F = true := fun F hF => by
  have h := own_not (kvs := kvs) g2 hF
  obtain ⟨R, hR, e, eg⟩ := gs_row ((own_sub _ _ _).subset hF)
  unfold stays groundOf
  rw [h, eg]
  rcases hc with hc | hc
  · rw [if_neg hc]
    rfl
  · by_cases hg : g = G.guild
    · rw [if_pos hg, hc]
      unfold gIn
      rw [if_neg (by simp)]
      rfl
    · rw [if_neg hg]
      rfl
/-- (4) the own ones are the same -/
theorem left_own (g2 : Good2 Rs) {g : Str} (hc : g ≠ G.guild ∨ ownB (dueOf kvs G.guild) (ofG Rs G.guild) G = false) : (partRs (dueOf kvs g) (ofG (leftL kvs Rs G) g)).1 = (partRs (dueOf kvs g) (ofG Rs g)).1 ∧ (partRs (dueOf kvs g) (ofG (leftL kvs Rs G) g)).2.2 = (partRs (dueOf kvs g) (ofG Rs g)).2.2 ∧
    (partRs (dueOf kvs g) (ofG (leftL kvs Rs G) g)).2.1 = (lentOf (dueOf kvs g) (gsOf Rs g) (zeros (dueOf kvs g).length)).filter (stays kvs Rs G) := by
  obtain ⟨h1, h2, h3⟩ := part_filter (own_stays (kvs := kvs) g2 hc)
  rw [part_left g2, partRs_eq]
  exact ⟨h1, h3, h2⟩
/-- (3) where it is own, none of a lesser rank is left -/
theorem left_above (g2 : Good2 Rs) (ho : ownB (dueOf kvs G.guild) (ofG Rs G.guild) G = true) : ofG (leftL kvs Rs G) G.guild = aboveOf G.rank (ofG Rs G.guild) := by
  rw [left_guild g2.names]
  refine List.filter_congr fun R hR => ?_
  have hg : R.1.guild = G.guild := of_decide_eq_true (List.mem_filter.mp hR).2
  unfold stays groundOf
  rw [if_pos hg, ho]
  unfold gIn
  by_cases hl : R.1.rank < G.rank
  · rw [decide_eq_true hl, if_pos (by simp), decide_eq_false (by omega)]
    rfl
  · rw [decide_eq_false hl, if_neg (by simp), decide_eq_true (by omega)]
    rfl
/-- (1) no lent one of a lesser rank is left -/
theorem left_lent (g2 : Good2 Rs) {g : Str} : ∀ F ∈ (partRs (dueOf kvs g) (ofG (leftL kvs Rs G) g)).2.1, ¬ F.rank < G.rank := fun F hF hl => by
  by_cases hc : g ≠ G.guild ∨ ownB (dueOf kvs G.guild) (ofG Rs G.guild) G = false
  · rw [(left_own g2 hc).2.2] at hF
    obtain ⟨h1, h2⟩ := List.mem_filter.mp hF
    have hi := lent_in h1
    obtain ⟨R, hR, e, eg⟩ := gs_row ((lent_sub _ _ _).subset h1)
    unfold stays groundOf at h2
    rw [hi, eg, decide_eq_true hl] at h2
    by_cases hg : g = G.guild
    · rw [if_pos hg] at h2
      cases h2
    · rw [if_neg hg] at h2
      unfold gBey at h2
      cases ho : owedB (dueOf kvs G.guild) (ofG Rs G.guild) G <;> rw [ho] at h2 <;> cases h2
  · have hg : g = G.guild := Classical.byContradiction fun z => hc (.inl z)
    have ho : ownB (dueOf kvs G.guild) (ofG Rs G.guild) G = true := by
      cases h : ownB (dueOf kvs G.guild) (ofG Rs G.guild) G with
      | true => rfl
      | false => exact absurd (.inr h) hc
    subst hg
    obtain ⟨R, hR, e⟩ := partRs_mem (.inr hF)
    rw [left_above g2 ho] at hR
    have := of_decide_eq_true (List.mem_filter.mp hR).2
    rw [e] at this
    omega
/-- (2) where it is owed, no lent one of another guild is left -/
theorem left_none (g2 : Good2 Rs) {g : Str} (hg : g ≠ G.guild) (ho : owedB (dueOf kvs G.guild) (ofG Rs G.guild) G = true) : (partRs (dueOf kvs g) (ofG (leftL kvs Rs G) g)).2.1 = [] := by
  rw [(left_own g2 (.inl hg)).2.2]
  refine List.filter_eq_nil_iff.mpr fun F hF z => ?_
  have hi := lent_in hF
  obtain ⟨R, hR, e, eg⟩ := gs_row ((lent_sub _ _ _).subset hF)
  unfold stays groundOf at z
  rw [hi, eg, if_neg hg, ho] at z
  cases z
end
/-! one that is owed would be own -/
theorem ord_split {Rs : List (Gang × Int)} (nd : (Rs.map (·.2)).Nodup) (r : Int) : ord Rs = ord (aboveOf r Rs) ++ ord (belowOf r Rs) := by
  refine (ord_of nd ?_ ?_).symm
  · exact ((ord_perm (aboveOf r Rs)).append (ord_perm (belowOf r Rs))).trans (List.filter_append_perm _ Rs)
  · rw [List.pairwise_append]
    refine ⟨ord_sorted _, ord_sorted _, fun a ha b hb => ?_⟩
    have ha3 : r ≤ a.1.rank := of_decide_eq_true (List.mem_filter.mp ((ord_perm _).mem_iff.mp ha)).2
    have hb' := (List.mem_filter.mp ((ord_perm _).mem_iff.mp hb)).2
    simp only [Bool.not_eq_true', decide_eq_false_iff_not] at hb'
    unfold rowLe
    rw [decide_eq_true_eq]
    omega
def leL (xs ys : List Int) : Prop := xs.length = ys.length ∧ ∀ (i : Nat) (x y : Int), xs[i]? = some x → ys[i]? = some y → x ≤ y
theorem leL_refl (xs : List Int) : leL xs xs := ⟨rfl, fun i x y h1 h2 => by rw [h1] at h2; cases h2; exact Int.le_refl _⟩
theorem leL_trans {xs ys zs : List Int} (a : leL xs ys) (b : leL ys zs) : leL xs zs := ⟨a.1.trans b.1, fun i x z h1 h2 => by
  have hi : i < ys.length := by rw [← a.1]; exact (List.getElem?_eq_some_iff.mp h1).1
  exact Int.le_trans (a.2 i x _ h1 (List.getElem?_eq_getElem hi)) (b.2 i _ z (List.getElem?_eq_getElem hi) h2)⟩
theorem fitB_iff {xs ys : List Int} : fitB xs ys = true ↔ ∀ (i : Nat) (x y : Int), xs[i]? = some x → ys[i]? = some y → x ≤ y := by
  unfold fitB
  rw [List.all_eq_true]
  refine ⟨fun h i x y h1 h2 => ?_, fun h b hb => ?_⟩
  · refine of_decide_eq_true (h (decide (x ≤ y)) (List.mem_of_getElem? (i := i) ?_))
    rw [List.getElem?_zipWith, h1, h2]
  · obtain ⟨i, hi⟩ := List.mem_iff_getElem?.mp hb
    rw [List.getElem?_zipWith] at hi
    cases e1 : xs[i]? with
    | none => rw [e1] at hi; cases hi
    | some x =>
      cases e2 : ys[i]? with
      | none => rw [e1, e2] at hi; cases hi
      | some y =>
        rw [e1, e2] at hi
        cases hi
        exact decide_eq_true (h i x y e1 e2)
theorem fitB_le {xs ys dn : List Int} (h : leL xs ys) (f : fitB ys dn = true) : fitB xs dn = true := fitB_iff.mpr fun i x d h1 h2 => by
  have hi : i < ys.length := by rw [← h.1]; exact (List.getElem?_eq_some_iff.mp h1).1
  exact Int.le_trans (h.2 i x _ h1 (List.getElem?_eq_getElem hi)) (fitB_iff.mp f i _ d (List.getElem?_eq_getElem hi) h2)
theorem addL_at {xs ys : List Int} {i : Nat} {z : Int} (h : (addL xs ys)[i]? = some z) : ∃ x y, xs[i]? = some x ∧ ys[i]? = some y ∧ z = x + y := by
  unfold addL at h
  rw [List.getElem?_zipWith] at h
  cases e1 : xs[i]? with
  | none => rw [e1] at h; cases h
  | some x =>
    cases e2 : ys[i]? with
    | none => rw [e1, e2] at h; cases h
    | some y =>
      rw [e1, e2] at h
      exact ⟨x, y, rfl, rfl, (Option.some.inj h).symm⟩
theorem addL_le {xs ys ws : List Int} (h : leL xs ys) : leL (addL xs ws) (addL ys ws) := by
  refine ⟨by unfold addL; rw [List.length_zipWith, List.length_zipWith, h.1], fun i a b h1 h2 => ?_⟩
  obtain ⟨x, u, e1, e2, rfl⟩ := addL_at h1
  obtain ⟨y, u', e3, e4, rfl⟩ := addL_at h2
  rw [e2] at e4
  cases e4
  have := h.2 i x y e1 e3
  omega
theorem addL_more {xs ws : List Int} (hl : ws.length = xs.length) (hn : ∀ n ∈ ws, 0 ≤ n) : leL xs (addL xs ws) := by
  refine ⟨by rw [addL_len hl], fun i x y h1 h2 => ?_⟩
  obtain ⟨x', u, e1, e2, rfl⟩ := addL_at h2
  rw [h1] at e1
  cases e1
  have := hn u (List.mem_of_getElem? e2)
  omega
theorem load_more {dn : List Int} : ∀ {Gs : List Gang} {ld : List Int}, (∀ F ∈ Gs, F.want.length = ld.length ∧ ∀ n ∈ F.whole, 0 ≤ n) → leL ld (loadOf dn Gs ld)
  | [], ld, _ => leL_refl ld
  | F :: Gs, ld, h => by
    have hF := h F List.mem_cons_self
    unfold loadOf
    split
    · have hl : (addL ld F.whole).length = ld.length := addL_len (by rw [whole_len]; exact hF.1)
      exact leL_trans (addL_more (by rw [whole_len]; exact hF.1) hF.2) (load_more fun K hK => ⟨by rw [hl]; exact (h K (List.mem_cons_of_mem _ hK)).1, (h K (List.mem_cons_of_mem _ hK)).2⟩)
    · exact load_more fun K hK => h K (List.mem_cons_of_mem _ hK)
theorem whole_nn {R : Gang × Int} (f : Fit R) : ∀ n ∈ R.1.whole, 0 ≤ n := fun n hn => by
  obtain ⟨x, hx, rfl⟩ := List.mem_map.mp hn
  exact Int.mul_nonneg (f.amt x hx).1 f.m0
/-- (5) -/
theorem owed_own {dn : List Int} {Ms : List (Gang × Int)} {G : Gang} (g2 : Good2 Ms) (hw : ∀ R ∈ Ms, R.1.want.length = dn.length) (h : owedB dn Ms G = true) : ownB dn Ms G = true := by
  unfold ownB owedB
  unfold owedB at h
  refine fitB_le (addL_le ?_) h
  rw [partRs_eq, partRs_eq]
  show leL (loadOf dn _ _) (loadOf dn _ _)
  rw [ord_split g2.nums G.rank, List.map_append, (own_app dn _ _ _).2.2]
  refine load_more fun F hF => ?_
  obtain ⟨R, hR, rfl⟩ := List.mem_map.mp hF
  have hR' := (List.mem_filter.mp ((ord_perm _).mem_iff.mp hR)).1
  have hl := load_len (dn := dn) (Rs := aboveOf G.rank Ms) fun S hS => hw S (List.mem_filter.mp hS).1
  rw [partRs_eq] at hl
  exact ⟨by rw [hw R hR']; exact hl.symm, whole_nn (g2.fit R hR')⟩
/-- (6) -/
theorem left_owed {kvs : List (Str × List Int)} {Rs : List (Gang × Int)} {G : Gang} (g2 : Good2 Rs) (hw : ∀ R ∈ ofG Rs G.guild, R.1.want.length = (dueOf kvs G.guild).length) : owedB (dueOf kvs G.guild) (ofG (leftL kvs Rs G) G.guild) G = ownB (dueOf kvs G.guild) (ofG Rs G.guild) G := by
  cases ho : ownB (dueOf kvs G.guild) (ofG Rs G.guild) G with
  | true =>
    rw [left_above g2 ho]
    exact ho
  | false =>
    unfold owedB
    rw [(left_own g2 (.inr ho)).2.1]
    cases hd : owedB (dueOf kvs G.guild) (ofG Rs G.guild) G with
    | false => exact hd
    | true =>
      have : ownB (dueOf kvs G.guild) (ofG Rs G.guild) G = true := owed_own (g2.sub List.filter_sublist) hw hd
      rw [ho] at this
      cases this
/-! a dict that is walked is locked, and unlocked again -/
theorem Tabs.lock {Ts : List Addr} {H : Hp} {d od : Addr} {o : Obj} {ps : List (Key × V)} (t : Tabs Ts H) (ed : H d = some (.dK ps)) : Tabs Ts (upd H d (.frz o (.dK ps))) := fun T hT => by
  obtain ⟨pp, h1, h2⟩ := t T hT
  refine ⟨pp, ?_, h2⟩
  rw [upd_ne fun z => ?_]
  · exact h1
  · rw [z, ed] at h1
    cases h1
theorem Fw.unlock {Ts : List Addr} {H H' : Hp} {d : Addr} {o : Obj} {ps : List (Key × V)} (t : Tabs Ts H) (ed : H d = some (.dK ps)) (f : Fw Ts (upd H d (.frz o (.dK ps))) H') : Fw Ts H (upd H' d (.dK ps)) := by
  have Tk : Tabs Ts (upd H d (.frz o (.dK ps))) := Tabs.lock (od := d) t ed
  have ek : upd H d (.frz o (.dK ps)) d = some (.frz o (.dK ps)) := upd_same
  refine ⟨fun x u nx e => ?_, fun T hT => ?_⟩
  · by_cases z : x = d
    · rw [z] at e ⊢
      rw [upd_same, ← e, ed]
    · rw [upd_ne z]
      refine f.kp x u nx ?_
      rw [upd_ne z]
      exact e
  · obtain ⟨pp, h1, h2⟩ := f.tabs T hT
    refine ⟨pp, ?_, h2⟩
    rw [upd_ne fun z => ?_]
    · exact h1
    · have := f.obj Tk ek fun pp z => by cases z
      rw [← z, h1] at this
      cases this
end My

set_option maxHeartbeats 1000000
namespace My
open PySem PySem.W PySem.Spec PyProof.Rows L2 GX GxR
theorem small1000 {n : Nat} (h : n ≤ 1000) : n < sizeLine := Nat.lt_of_le_of_lt h (by decide)
/-- all but the box and the tables stays -/
theorem kq_obj {b : Addr} {Ts : List Addr} {H H' : Hp} (k : Kp (b :: Ts) H H') (t : Tabs Ts H) {x : Addr} {o : HO} (nb : x ≠ b) (e : H x = some o) (no : ∀ ps, o ≠ .tbl ps) : H' x = some o :=
  k _ _ (fun z => (List.mem_cons.mp z).elim nb fun z => tab_off t e no z) e
theorem kq_non {b : Addr} {c : Int} {Ts : List Addr} {H H' : Hp} (k : Kp (b :: Ts) H H') (t : Tabs Ts H) (B : BoxAt H b c) {x : Addr} {o : HO} (e : H x = some o) (nl : ∀ ys, o ≠ .lst ys) (no : ∀ ps, o ≠ .tbl ps) : H' x = some o := by
  refine kq_obj k t (fun z => ?_) e no
  obtain ⟨ys, h1, _⟩ := B
  rw [z, h1] at e
  exact nl _ (Option.some.inj e).symm
theorem kq_tup {b : Addr} {c : Int} {Ts : List Addr} {H H' : Hp} (k : Kp (b :: Ts) H H') (t : Tabs Ts H) (B : BoxAt H b c) {x : Addr} {xs : List V} (e : H x = some (.tup xs)) : H' x = some (.tup xs) := kq_non k t B e (fun ys z => by cases z) fun ps z => by cases z
theorem SiteAt.kq {n : Nat} {b : Addr} {c : Int} {Ts : List Addr} {H H' : Hp} {s : Addr} {rs : List House} (k : Kp (b :: Ts) H H') (t : Tabs Ts H) (B : BoxAt H b c) (nb : s ≠ b) (h : SiteAt n H s rs) : SiteAt n H' s rs := by
  obtain ⟨vs, h1, h2, h3⟩ := h
  refine ⟨vs, kq_obj k t nb h1 fun ps z => (by cases z), h2.imp fun v r hv => ?_, h3⟩
  obtain ⟨x, l, e, g1, g2⟩ := hv
  exact ⟨x, l, e, kq_tup k t B g1, kq_tup k t B g2⟩
theorem PairsAt.kq {b : Addr} {c : Int} {Ts : List Addr} {H H' : Hp} {p : Addr} {ps : List (Str × Int)} (k : Kp (b :: Ts) H H') (t : Tabs Ts H) (B : BoxAt H b c) (h : PairsAt H p ps) : PairsAt H' p ps := by
  obtain ⟨vs, h1, h2⟩ := h
  refine ⟨vs, ?_, h2.kt fun x xs e => kq_tup k t B e⟩
  rcases h1 with h1 | ⟨o, h1⟩
  · exact .inl (kq_tup k t B h1)
  · exact .inr ⟨o, kq_non k t B h1 (fun ys z => by cases z) fun ps z => by cases z⟩
theorem BoxAt.fw {b : Addr} {c : Int} {Ts : List Addr} {H H' : Hp} (t : Tabs Ts H) (f : Fw Ts H H') (B : BoxAt H b c) : BoxAt H' b c := by
  obtain ⟨xs, h1, h2⟩ := B
  exact ⟨xs, f.lst t h1, h2⟩
end My

set_option maxHeartbeats 1000000
namespace My
open PySem PySem.Spec PyProof.Rows L2 GX GxR
abbrev s_scTu : Stmt := topS 30
abbrev n_scTu : List Str := ["_law_box_here", "_law_site_here", "_law_made", "_law_row"]
theorem scTu : FnScope n_scTu ["_law_box_here", "_law_site_here"] (defScope s_scTu) := ⟨rfl, rfl, rfl, by decide +kernel, rfl, by decide +kernel, by decide +kernel⟩
def spTurned : Sp := fun vs H Q _ => ∃ (b s : Addr) (c : Int) (n : Nat) (rs : List House), vs = [.ref b, .ref s] ∧ BoxAt H b c ∧ c ≤ 100000000 ∧ SiteAt n H s rs ∧ s ≠ b ∧
  ∀ (p : Addr) (rs' : List House) (H' : Hp), rs'.Perm rs → SiteAt n H' p rs' → Kp [b] H H' → BoxAt H' b (c + 40) → H p = none → Q (.ref p) H'
theorem HouseAt.kpb {H H' : Hp} {v : V} {r : House} {b : Addr} {c : Int} (B : BoxAt H b c) (k : Kp [b] H H') (h : HouseAt H v r) : HouseAt H' v r := h.kp B k
theorem pairs_houses {H : Hp} {ps : List (V × House)} (h : ∀ p ∈ ps, HouseAt H p.1 p.2) : Houses H (ps.map (·.1)) (ps.map (·.2)) := by
  induction ps with
  | nil => exact .nil
  | cons p ps ih => exact Houses.cons (h p List.mem_cons_self) (ih fun x hx => h x (List.mem_cons_of_mem _ hx))
theorem BoxAt.off {H : Hp} {b D : Addr} {c : Int} {o : HO} (B : BoxAt H b c) (n : D ≠ b) : BoxAt (upd H D o) b c := B.kp (S := [D]) (kp_upd (List.mem_singleton.mpr rfl)) (fun z => n (List.mem_singleton.mp z).symm)
section
variable {P : Program} {w : World} {K : PySem.W.Frag} {mg : Str → Option Value} {base : Heap}
theorem ok_turned {f fT : Addr} {fd fdT : FuncData} {k : Nat} (F : Fun K "_law_turned" "_law_turned" s_scTu f fd) (X : Txt mg)
    (GT : FnOk P w K mg base CX0 k fT fdT ["_law_box_here", "_law_many_here"] spTakeW) (mT : mg "_law_take" = some (.ref fT)) (kT : PySem.W.keepIn K (.ref fT) = true) (bT : Binds K fdT ["_law_box_here", "_law_many_here"] []) :
    FnOk P w K mg base CX0 (k + 1) f fd ["_law_box_here", "_law_site_here"] spTurned := by
  refine F.ok scTu (fun vs H Q E h => ?_) (fun cdv A outer s H vs Q E hr h => ?_)
  · obtain ⟨b, s, c, n, rs, rfl, _⟩ := h
    rfl
  · obtain ⟨b, s', c, n, rs, rfl, hB, hc, hsite, sb, q⟩ := h
    refine ⟨_, (pss_cons (ps_set (i := 2) scTu.nd rfl (.inl rfl) (pe_lst pa_nil))
(C8.pss_cut (ps_for PassesOwn.never rfl (pi_list (pv 1)) (pg_name (i := 3) scTu.nd rfl (.inl rfl))
  (pss_one (ps_expr (pe_bm PySem.F.plainAttrs_list PySem.F.slot_list_insert PySem.F.type_list_insert mt_insert (pv 2) (pa_cons (pe_call GT hr (by rfl) mT kT bT .nil pass0 (pa_cons (pv 0) (pa_cons (pe_op op_add (pe_callB call_len_seq (by rfl) X.len PySem.boot_len (pa_cons (pv 2) pa_nil)) pe_int) pa_nil))) (pa_cons (pv 3) pa_nil))))))
(pss_one (ps_ret (pv 2))))), ?_⟩
    obtain ⟨us, hs1, hs2, hnd, h40, hall⟩ := _root_.id hsite
    have lus : us.length = rs.length := hs2.len
    obtain ⟨hps, ps1, ps2, ps3⟩ := houses_pairs hs2
    refine ⟨by show 0 ≤ sizeLine; decide, fun D nD => ?_⟩
    have Db : D ≠ b := nb_of hB nD
    refine ⟨fun σ H' => ∃ (y3 : Option V) (qs : List (V × House)), σ = [some (.ref b), some (.ref s'), some (.ref D), y3] ∧ Kp [b] H H' ∧ BoxAt H' b (c + 40) ∧ H' D = some (.lst (qs.map (·.1))) ∧ qs.Perm hps, ?_, fun σ H1 pm => ?_⟩
    · refine ⟨_, rfl, s', rfl, ⟨_, SqL.of (same_upd nD _ _ hs1)⟩, ?_⟩
      refine for_list (xs := us) (fun i σ H' => ∃ (y3 : Option V) (qs : List (V × House)), σ = [some (.ref b), some (.ref s'), some (.ref D), y3] ∧ Kp [b] H H' ∧ BoxAt H' b (c + i) ∧ H' D = some (.lst (qs.map (·.1))) ∧ qs.Perm (hps.take i)) ⟨none, [], rfl, kp_new (Kp.refl _ _) nD, by rw [Int.ofNat_zero, Int.add_zero]; exact hB.same (same_upd nD), upd_same, .nil⟩ (fun i σ H' _ p => ?_) (fun i x σ H1 hx p => ?_) (fun σ H' p => ?_)
      · obtain ⟨_, _, _, g, _⟩ := p
        exact SqL.of (g _ _ (fun z => sb (List.mem_singleton.mp z)) hs1)
      · obtain ⟨y3, qs, rfl, k1, B1, e1, p1⟩ := p
        have hi : i < us.length := (List.getElem?_eq_some_iff.mp hx).1
        have lq : qs.length = i := by
          have := p1.length_eq
          rw [List.length_take] at this
          have l2 : hps.length = us.length := by rw [← ps1, List.length_map]
          omega
        obtain ⟨len, hlen⟩ : ∃ m : Nat, (qs.map (·.1)).length = m := ⟨_, rfl⟩
        have hl2 : len = i := by rw [← hlen, List.length_map]; exact lq
        refine ⟨_, rfl, .inl ⟨rfl, _, SqL.of e1⟩, _, rfl, _, rfl, D, _, rfl, .inl (SqL.of e1), ((qs.map (·.1)).length : Int), 1, rfl, rfl, b, _, ((qs.map (·.1)).length : Int) + 1, rfl, B1, by omega, by omega, by omega, fun u H2 u0 u1 k2 B2 => ?_⟩
        have Dnb : D ∉ [b] := fun z => Db (List.mem_singleton.mp z)
        have e2 := k2 _ _ Dnb e1
        refine ⟨_, rfl, D, _, u, x, rfl, rfl, e2, ?_, u0, by omega, ?_⟩
        · rw [hlen, hl2]
          exact Nat.lt_of_lt_of_le (small1000 (n := i) (by omega)) (Nat.le_refl _)
        obtain ⟨pr, hpr⟩ : ∃ pr, hps[i]? = some pr ∧ pr.1 = x := by
          rw [← ps1, List.getElem?_map] at hx
          cases e : hps[i]? with
          | none => rw [e] at hx; cases hx
          | some pr => rw [e] at hx; exact ⟨pr, rfl, Option.some.inj hx⟩
        refine ⟨_, qs.take u.toNat ++ [pr] ++ qs.drop u.toNat, rfl, ?_, ?_, ?_, ?_⟩
        · exact kp_put (k1.trans k2) nD
        · exact (B2.off Db).le (by omega)
        · rw [upd_same, List.map_append, List.map_append, List.map_take, List.map_drop, ← hpr.2]
          rfl
        · rw [List.take_add_one, hpr.1]
          refine List.Perm.trans ?_ (List.Perm.append_right _ p1)
          have : (qs.take u.toNat ++ [pr] ++ qs.drop u.toNat).Perm (qs.take u.toNat ++ qs.drop u.toNat ++ [pr]) := by
            rw [List.append_assoc, List.append_assoc]
            exact List.Perm.append_left _ List.perm_append_comm
          rw [List.take_append_drop] at this
          exact this
      · obtain ⟨y3, qs, rfl, k1, B1, e1, p1⟩ := p
        rw [List.take_of_length_le (by rw [← lus, ← ps1, List.length_map] at *; omega)] at p1
        exact ⟨y3, qs, rfl, k1, B1.le (by omega), e1, p1⟩
    obtain ⟨y3, qs, rfl, k1, B1, e1, p1⟩ := pm
    have hq : ∀ p ∈ qs, HouseAt H1 p.1 p.2 := fun p hp => (ps3 p (p1.mem_iff.mp hp)).kp hB k1
    have prm : (qs.map (·.2)).Perm rs := by rw [← ps2]; exact p1.map _
    refine ⟨_, rfl, q D (qs.map (·.2)) H1 prm ⟨_, e1, pairs_houses hq, (prm.map _).nodup_iff.mpr hnd, by rw [prm.length_eq]; exact h40, fun r hr' => hall r (prm.mem_iff.mp hr')⟩ k1 B1 nD⟩
end
end My

set_option maxHeartbeats 1000000
namespace My
open PySem PySem.Spec PyProof.Rows L2 GX GxR
abbrev s_scYard : Stmt := topS 11
abbrev n_scYard : List Str := ["site", "house", "yard", "left"]
theorem scYard : FnScope n_scYard ["site"] (defScope s_scYard) := ⟨rfl, rfl, rfl, by decide +kernel, rfl, by decide +kernel, by decide +kernel⟩
abbrev s_scByY : Stmt := topS 12
abbrev n_scByY : List Str := ["site", "counts", "yards", "rising", "yard", "house", "left", "n"]
theorem scByY : FnScope n_scByY ["site", "counts"] (defScope s_scByY) := ⟨rfl, rfl, rfl, by decide +kernel, rfl, by decide +kernel, by decide +kernel⟩
def spYard : Sp := fun vs H Q _ => ∃ (s : Addr) (n : Nat) (rs : List House), vs = [.ref s] ∧ SiteAt n H s rs ∧ ∀ (d : Addr) (H' : Hp), Same H H' → H d = none → H' d = some (.dK (kvsY rs)) → Q (.ref d) H'
def spByY : Sp := fun vs H Q _ => ∃ (s c : Addr) (n : Nat) (rs : List House) (ps : List (Str × Int)), vs = [.ref s, .ref c] ∧ SiteAt n H s rs ∧ PairsAt H c ps ∧ CntOk rs ps ∧
  ∀ (g : Addr) (ws : List (V × List (Str × Int))) (ys : List Str) (H' : Hp), Same H H' → H g = none → H' g = some (.lst (ws.map (·.1))) → (∀ w ∈ ws, GrpAt H' w.1 w.2 ∧ w.1 ≠ .ref g) → ws.map (·.2) = groupsY (ydOf rs) ps ys → ws.length ≤ 40 → YsOf (rs.map (·.yard)) ys → Q (.ref g) H'
section
variable {P : Program} {w : World} {K : PySem.W.Frag} {mg : Str → Option Value} {base : Heap}
theorem ok_yard {f : Addr} {fd : FuncData} {k : Nat} (F : Fun K "yard_of_houses" "yard_of_houses" s_scYard f fd) : FnOk P w K mg base CX0 (k + 1) f fd ["site"] spYard := by
  refine F.ok scYard (fun vs H Q E h => ?_) (fun cdv A outer s H vs Q E hr h => ?_)
  · obtain ⟨s, n, rs, rfl, _⟩ := h
    rfl
  · obtain ⟨s', n, rs, rfl, ⟨us, hs1, hs2, hnd, h40, hall⟩, q⟩ := h
    refine ⟨_, pss_one (ps_ret (pe_dc (own := [("house", 1), ("yard", 2), ("left", 3)]) (g := gTup K 3 (gCons (gName 1) (gCons (gName 2) (gCons (gName 3) gNil)))) (tt := tYes) rfl scYard.nd (pi_list (pv 0)) (blkOk_by (own := [("house", 1), ("yard", 2), ("left", 3)]) (N := n_scYard) (sc := defScope s_scYard) (by decide +kernel))
      (fun _ _ _ _ _ => pg_tup rfl (pgs_cons (pg_name (i := 1) scYard.nd rfl (.inl rfl)) (pgs_cons (pg_name (i := 2) scYard.nd rfl (.inl rfl)) (pgs_cons (pg_name (i := 3) scYard.nd rfl (.inl rfl)) pgs_nil)))) (fun _ _ _ _ _ => pts_nil) (fun _ _ _ _ _ => pv 1) (fun _ _ _ _ _ => pv 2))), ?_⟩
    obtain ⟨ps, ps1, ps2, ps3⟩ := houses_pairs hs2
    have lus : us.length = rs.length := hs2.len
    refine ⟨_, rfl, s', rfl, ⟨_, SqL.of hs1⟩, fun D nD => ?_⟩
    refine dc_list (K := K) (xs := us) (fun i H' => Same H H' ∧ H' D = some (.dK (kvsY (rs.take i)))) ⟨same_upd nD, upd_same⟩ (fun i H' _ p => SqL.of (p.1 _ _ hs1)) (fun i x H' hx p => ?_) (fun H' p => ?_)
    · obtain ⟨p1, p2⟩ := p
      rw [← ps1, List.getElem?_map] at hx
      cases hw : ps[i]? with
      | none => rw [hw] at hx; cases hx
      | some wv =>
        rw [hw] at hx
        have hx : wv.1 = x := Option.some.inj hx
        have hri : rs[i]? = some wv.2 := by rw [← ps2, List.getElem?_map, hw]; rfl
        have hi : i < rs.length := (List.getElem?_eq_some_iff.mp hri).1
        have ha : HouseAt H' x wv.2 := by rw [← hx]; exact (ps3 wv (List.mem_of_getElem? hw)).same p1
        obtain ⟨t, l, rfl, h1, h2⟩ := ha
        refine ⟨t, [.str wv.2.name, .str wv.2.yard, .ref l], rfl, SqT.of h1, rfl, .str wv.2.name, [.str wv.2.yard, .ref l], rfl, .str wv.2.yard, [.ref l], rfl, .ref l, [], rfl, rfl, rfl, ?_⟩
        refine ⟨_, rfl, _, rfl, kvsY (rs.take i), .inr wv.2.name, rfl, p2, ?_, same_putA p1 nD, ?_⟩
        · unfold kvsY
          rw [List.length_map, List.length_take]
          exact small1000 (by omega)
        · rw [upd_same, putK_new, List.take_add_one, hri]
          · unfold kvsY
            rw [List.map_append]
            rfl
          · intro p hp e
            unfold kvsY at hp
            obtain ⟨r, hr', rfl⟩ := List.mem_map.mp hp
            exact fresh_name hnd hri r hr' (Sum.inr.inj e)
    · obtain ⟨p1, p2⟩ := p
      rw [lus, List.take_of_length_le (Nat.le_refl _)] at p2
      exact q D H' p1 nD p2
theorem ok_byY {f fY : Addr} {fd fdY : FuncData} {k : Nat} (F : Fun K "pairs_by_yards" "pairs_by_yards" s_scByY f fd) (mSorted : mg "sorted" = none)
    (GY : FnOk P w K mg base CX0 k fY fdY ["site"] spYard) (mY : mg "yard_of_houses" = some (.ref fY)) (kY : PySem.W.keepIn K (.ref fY) = true) (bY : Binds K fdY ["site"] []) :
    FnOk P w K mg base CX0 (k + 1) f fd ["site", "counts"] spByY := by
  refine F.ok scByY (fun vs H Q E h => ?_) (fun cdv A outer s H vs Q E hr h => ?_)
  · obtain ⟨s, c, n, rs, ps, rfl, _⟩ := h
    rfl
  · obtain ⟨s', c, n, rs, ps, rfl, hsite, hc, hok, q⟩ := h
    refine ⟨_, (pss_cons (ps_set (i := 2) scByY.nd rfl (.inr rfl) (pe_call GY hr (by rfl) mY kY bY .nil pass0 (pa_cons (pv 0) pa_nil)))
(pss_cons (ps_set (i := 3) scByY.nd rfl (.inl rfl) (pe_callB (SX.cr_sortSo rfl hr.units) (by rfl) mSorted (by decide +kernel) (pa_cons (SX.pe_scS (own := [("house", 5), ("yard", 4), ("left", 6)]) (g := (gTup K 3 (gCons (gName 5) (gCons (gName 4) (gCons (gName 6) gNil))))) (tt := tYes) rfl scByY.nd (pi_list (pv 0)) (blkOk_by (own := [("house", 5), ("yard", 4), ("left", 6)]) (N := n_scByY) (sc := defScope s_scByY) (by decide +kernel)) (fun _ _ _ _ _ => (pg_tup rfl (pgs_cons (pg_name (i := 5) scByY.nd rfl (.inl rfl)) (pgs_cons (pg_name (i := 4) scByY.nd rfl (.inl rfl)) (pgs_cons (pg_name (i := 6) scByY.nd rfl (.inl rfl)) pgs_nil))))) (fun _ _ _ _ _ => pts_nil) (fun _ _ _ _ _ => (pv 4))) pa_nil)))
(pss_one (ps_ret (pe_lc (own := [("yard", 4)]) (g := (gName 4)) (tt := tYes) (te := (tLc (iTup K (tVar 1)) (gTup K 2 (gCons (gName 5) (gCons (gName 7) gNil))) (tTest (tOp rEq (tDGet (tVar 2) (tVar 5)) (tVar 4))) (tTup (tCons (tVar 5) (tCons (tVar 7) tNil))) [5, 7])) rfl scByY.nd (pi_list (pv 3)) (blkOk_by (own := [("yard", 4)]) (N := n_scByY) (sc := defScope s_scByY) (by decide +kernel)) (fun _ _ _ _ _ => (pg_name (i := 4) scByY.nd rfl (.inr rfl))) (fun _ _ _ _ _ => pts_nil) (fun _ _ _ _ _ => (pe_lc (own := [("house", 5), ("n", 7)]) (g := (gTup K 2 (gCons (gName 5) (gCons (gName 7) gNil)))) (tt := (tTest (tOp rEq (tDGet (tVar 2) (tVar 5)) (tVar 4)))) (te := (tTup (tCons (tVar 5) (tCons (tVar 7) tNil)))) (wi := (iTup K (tVar 1))) rfl scByY.nd (pi_tup (pv 1)) (blkOk_by (own := [("house", 5), ("n", 7)]) (by kernel_rfl)) (fun _ _ _ _ _ => (pg_tup rfl (pgs_cons (pg_name (i := 5) scByY.nd rfl (.inl rfl)) (pgs_cons (pg_name (i := 7) scByY.nd rfl (.inl rfl)) pgs_nil)))) (fun _ _ _ _ _ => pts_one (pt_cmpR op_eq (pe_dget (hu_of hr) (pv 2) (pv 5) (fun _ _ => rfl)) (pv 4) (nomark _))) (fun _ _ _ _ _ => (pe_tup (pa_cons (pv 5) (pa_cons (pv 7) pa_nil))))))))))), ?_⟩
    obtain ⟨us, hs1, hs2, hnd, h40, hall⟩ := hsite
    refine ⟨_, rfl, s', n, rs, rfl, ⟨us, hs1, hs2, hnd, h40, hall⟩, fun d H1 s1 nd ed => ?_⟩
    have lus : us.length = rs.length := hs2.len
    refine ⟨_, rfl, s', rfl, ⟨_, SqL.of (s1 _ _ hs1)⟩, fun D nD => ?_⟩
    refine SX.sc_it (P := P) (w := w) (walk_list (K := K) (a := s') (xs := us)) (fun i H' => Same H1 H' ∧ H' D = some (SX.SetSO P w D (SX.seenS ((rs.take i).map (·.yard))))) ⟨same_upd nD, upd_same⟩ (fun i H' _ p => SqL.of (p.1 _ _ (s1 _ _ hs1))) (fun i x H' H'' hi p y => ?_) (fun H2 p => ?_)
    · obtain ⟨rfl, hx⟩ := y
      obtain ⟨p1, p2⟩ := p
      obtain ⟨hps, ps1, ps2, ps3⟩ := houses_pairs hs2
      rw [← ps1, List.getElem?_map] at hx
      cases hw : hps[i]? with
      | none => rw [hw] at hx; cases hx
      | some wv =>
        rw [hw] at hx
        have hx : wv.1 = x := Option.some.inj hx
        have hri : rs[i]? = some wv.2 := by rw [← ps2, List.getElem?_map, hw]; rfl
        have ha : HouseAt H'' x wv.2 := by rw [← hx]; exact (ps3 wv (List.mem_of_getElem? hw)).same (s1.trans p1)
        obtain ⟨t, l, rfl, h1, h2⟩ := ha
        refine ⟨t, [.str wv.2.name, .str wv.2.yard, .ref l], rfl, SqT.of h1, rfl, .str wv.2.name, [.str wv.2.yard, .ref l], rfl, .str wv.2.yard, [.ref l], rfl, .ref l, [], rfl, rfl, rfl, ?_⟩
        refine ⟨_, rfl, wv.2.yard, _, rfl, p2, ?_, same_putA p1 nD, ?_⟩
        · have := SX.seen_len ((rs.take i).map (·.yard))
          rw [List.length_map, List.length_take] at this
          unfold scanBound
          omega
        · rw [upd_same, List.take_add_one, hri, List.map_append]
          show some _ = some (SX.SetSO P w D (SX.seenS ((rs.take i).map (·.yard) ++ [wv.2.yard])))
          rw [SX.seen_snoc]
    · obtain ⟨p1, p2⟩ := p
      rw [lus, List.take_of_length_le (Nat.le_refl _)] at p2
      refine ⟨D, _, rfl, p2, fun ys l yp yso nl => ?_⟩
      have hys : YsOf (rs.map (·.yard)) ys := ⟨yp.nodup_iff.mpr (SX.seen_nd _), yso, fun y => by rw [yp.mem_iff, SX.seen_mem]⟩
      have ly : ys.length ≤ 40 := by
        have := SX.seen_len (rs.map (·.yard))
        rw [yp.length_eq]
        rw [List.length_map] at this
        omega
      have s3 : Same H (upd H2 l (.lst (ys.map V.str))) := (s1.trans p1).trans (same_upd nl)
      have ed3 : upd H2 l (.lst (ys.map V.str)) d = some (.dK (kvsY rs)) := same_upd nl _ _ (p1 _ _ ed)
      have el3 : upd H2 l (.lst (ys.map V.str)) l = some (.lst (ys.map V.str)) := upd_same
      generalize upd H2 l (.lst (ys.map V.str)) = H3 at s3 ed3 el3 ⊢
      refine ⟨_, rfl, l, rfl, ⟨_, SqL.of el3⟩, fun D1 nD1 => ?_⟩
      have hc3 := hc.same s3
      obtain ⟨cs, hc1, hc2⟩ := hc3
      refine lc_list (K := K) (xs := ys.map V.str) (fun i H' => Same H3 H' ∧ ∃ ws : List (V × List (Str × Int)), H' D1 = some (.lst (ws.map (·.1))) ∧ (∀ w ∈ ws, GrpAt H' w.1 w.2 ∧ w.1 ≠ .ref D1) ∧ ws.map (·.2) = groupsY (ydOf rs) ps (ys.take i) ∧ ws.length = i) ⟨same_upd nD1, [], upd_same, fun _ h => (by cases h), rfl, rfl⟩ (fun i H' _ p => SqL.of (p.1 _ _ el3)) (fun i x H' hx p => ?_) (fun H' p => ?_)
      · obtain ⟨g1, ws, g2, g3, g4, g5⟩ := p
        rw [List.getElem?_map] at hx
        cases hw : ys[i]? with
        | none => rw [hw] at hx; cases hx
        | some y =>
          rw [hw] at hx
          have hx : V.str y = x := Option.some.inj hx
          subst hx
          have hi : i < ys.length := (List.getElem?_eq_some_iff.mp hw).1
          refine ⟨rfl, ?_⟩
          have hcr : Rd H' c (.tup cs) := by
            rcases hc1 with e | ⟨o, e⟩
            · exact .inl (g1 _ _ e)
            · exact .inr ⟨o, g1 _ _ e⟩
          have hcv := hc2.same g1
          have lcs : cs.length = ps.length := hcv.len
          refine ⟨_, rfl, c, rfl, ⟨_, .inl hcr⟩, fun D2 nD2 => ?_⟩
          refine lc_tup (K := K) (xs := cs) (fun j H4 => Same H' H4 ∧ ∃ vs, H4 D2 = some (.lst vs) ∧ PairVs H4 vs (ofY (ydOf rs) (ps.take j) y)) ⟨same_upd nD2, [], upd_same, .nil⟩ (fun j H4 _ p => ?_) (fun j x H4 hx p => ?_) (fun H4 p => ?_)
          · rcases hcr with e | ⟨o, e⟩
            · exact .inl (.inl (p.1 _ _ e))
            · exact .inl (.inr ⟨o, p.1 _ _ e⟩)
          · obtain ⟨k1, vs, k2, k3⟩ := p
            have hj : j < ps.length := by rw [← lcs]; exact (List.getElem?_eq_some_iff.mp hx).1
            have hpj : ps[j]? = some ps[j] := List.getElem?_eq_getElem hj
            obtain ⟨t, e1, e2⟩ := hcv.at j ps[j] hpj
            rw [hx] at e1
            cases e1
            have e2 := k1 _ _ e2
            have hq := List.getElem_mem hj
            have lf : (ofY (ydOf rs) (ps.take j) y).length ≤ 40 := by
              have := List.length_filter_le (fun q : Str × Int => decide (ydOf rs q.1 = y)) (ps.take j)
              rw [List.length_take] at this
              have := hok.few
              unfold ofY
              omega
            have tk : ofY (ydOf rs) (ps.take (j + 1)) y = ofY (ydOf rs) (ps.take j) y ++ if ydOf rs ps[j].1 = y then [ps[j]] else [] := by
              rw [List.take_add_one, hpj]
              exact ofY_snoc _ _ _ _
            refine ⟨t, [.str ps[j].1, .int ps[j].2], rfl, SqT.of e2, rfl, .str ps[j].1, [.int ps[j].2], rfl, .int ps[j].2, [], rfl, rfl, rfl, ?_⟩
            have gd := DGet.k (H := H4) (a := d) (k := (Sum.inr ps[j].1 : Key)) (k1 _ _ (g1 _ _ ed3))
            rw [val_yd hnd (hok.mem _ hq)] at gd
            refine ⟨_, rfl, _, rfl, d, _, rfl, gd, _, rfl, rfl, _, rfl, ite2 (fun z => ?_) (fun z => ?_)⟩
            · have z1 : ydOf rs ps[j].1 = y := by
                have := of_decide_eq_true z
                cases this
                rfl
              refine ⟨_, rfl, _, rfl, by show 2 ≤ sizeLine; decide, fun t2 nt2 => ⟨vs, same_upd nt2 _ _ k2, ?_, same_putA (k1.trans (same_upd nt2)) nD2, vs ++ [.ref t2], upd_same, ?_⟩⟩
              · rw [k3.len]
                exact small1000 (by omega)
              · rw [tk, if_pos z1]
                exact ((k3.same (same_upd (o := .tup [.str ps[j].1, .int ps[j].2]) nt2)).snoc (t := t2) upd_same).put (same_upd nt2 _ _ k2)
            · have z1 : ¬ ydOf rs ps[j].1 = y := fun e => z (decide_eq_true (by rw [e]))
              refine ⟨k1, vs, k2, ?_⟩
              rw [tk, if_neg z1, List.append_nil]
              exact k3
          · obtain ⟨k1, vs, k2, k3⟩ := p
            rw [lcs, List.take_of_length_le (Nat.le_refl _)] at k3
            have hD : D2 ≠ D1 := fun z => by rw [z, g2] at nD2; cases nD2
            have grp : GrpAt H4 (.ref D2) (ofY (ydOf rs) ps y) := by
              refine ⟨D2, vs, rfl, k2, k3, ?_, fun q hq => hok.bnd q (List.mem_filter.mp hq).1⟩
              have := List.length_filter_le (fun q : Str × Int => decide (ydOf rs q.1 = y)) ps
              have := hok.few
              unfold ofY
              omega
            have g2' := k1 _ _ g2
            have hn : V.ref D2 ≠ .ref D1 := fun z => hD (V.ref.inj z)
            refine ⟨_, g2', ?_, same_putA (g1.trans k1) nD1, ws ++ [(.ref D2, ofY (ydOf rs) ps y)], ?_, fun w hw' => ?_, ?_, ?_⟩
            · rw [List.length_map, g5]
              exact small1000 (by omega)
            · rw [upd_same, List.map_append]
              rfl
            · rcases List.mem_append.mp hw' with z | z
              · exact ⟨((g3 w z).1.same k1).put g2' (g3 w z).2, (g3 w z).2⟩
              · rw [List.mem_singleton.mp z]
                exact ⟨grp.put g2' hn, hn⟩
            · rw [List.map_append, g4, List.take_add_one, hw]
              unfold groupsY
              rw [List.map_append]
              rfl
            · rw [List.length_append, g5]
              rfl
      · obtain ⟨g1, ws, g2, g3, g4, g5⟩ := p
        rw [List.length_map, List.take_of_length_le (Nat.le_refl _)] at g4
        rw [List.length_map] at g5
        exact q D1 ws ys H' (s3.trans g1) (s3.free nD1) g2 g3 g4 (by omega) hys
end
end My

set_option maxHeartbeats 2000000
/-! sum(..) of a generator expression; a generator expression over a list of pairs -/
namespace PySem
theorem letgo_tupiter {prog : Program} {w : World} {A : Around} {E : Value → Shared → Prop} {s : Shared} {elts : List Expr} {x1} {pos : Pos} {I l T : Addr} {i : Nat} {Q : Unit → Shared → Prop} (hit : s.heap.IsTupleIter I l i) (hQ : Q () s) :
    wpAny (model prog w) A (letOwnedTupleGo (.Tuple elts x1 pos) (.ref I) (.ref T)) Q E s := by
  obtain ⟨o, ho, hc, hd⟩ := hit
  exact L2.go_of ho hc hd (by decide) hQ
theorem WalksU.tupleOfTuples {prog : Program} {w : World} {A : Around} (hh : A.handled = none) (I ax : Addr) (hne : ax ≠ I) (items : Array Value) (Ts : Nat → Addr) (vals : Nat → Array Value)
    (hit : ∀ j, j < items.size → items[j]? = some (.ref (Ts j))) (hTI : ∀ j, j < items.size → Ts j ≠ I) :
    WalksU prog w A I (I :: ax :: (List.range items.size).map Ts) [I] items.size (fun j v => v = vals j)
      (fun j h => h.IsTupleIter I ax j ∧ h.IsTuple ax items ∧ ∀ k, k < items.size → h.IsTuple (Ts k) (vals k))
      (fun j T h => (j < items.size ∧ T = Ts j) ∧ h.IsTupleIter I ax (j + 1) ∧ h.IsTuple ax items ∧ ∀ k, k < items.size → h.IsTuple (Ts k) (vals k)) where
  sub := fun b hb => by simp at hb; simp [hb]
  frame := fun _ _ _ st hk => ⟨st.1.at fun o e => hk I (by simp) o e, st.2.1.at fun o e => hk ax (by simp) o e,
    fun k hk' => (st.2.2 k hk').at fun o e => hk (Ts k) (List.mem_cons_of_mem _ (List.mem_cons_of_mem _ (List.mem_map.mpr ⟨k, List.mem_range.mpr hk', rfl⟩))) o e⟩
  item := fun i s Q E hi st hQ => by
    refine wpAny_pyNext_tuple_item st.1 st.2.1 (x := .ref (Ts i)) (hit i hi) fun h' hit' hs' => ?_
    have tup : ∀ k, k < items.size → h'.IsTuple (Ts k) (vals k) := fun k hk' => (st.2.2 k hk').extBut hs'.extBut (hTI k hk')
    exact hQ (Ts i) (vals i) h' s.toks rfl (tup i hi) ⟨⟨hi, rfl⟩, hit', st.2.1.extBut hs'.extBut hne, tup⟩ fun b o hb e => hs'.extBut b o (fun h => hb (by simp [h])) e
  go := fun _ _ _ _ _ s Q _ hm hQ => letgo_tupiter hm.2.1 (hQ s.heap hm.2 fun _ _ _ e => e)
  apart := fun j T _ hm hmem => by
    rcases List.mem_cons.mp hmem with e | e
    · exact hTI j hm.1.1 (hm.1.2 ▸ e)
    · cases e
  done := fun s Q E st hQ => wpAny_pyNext_tuple_end hh st.1 st.2.1 (by simp) fun h' he' => hQ h' s.toks fun b o hb e => he' b o (fun h => hb (by simp [h])) e
  self := fun _ _ _ _ st hQ => wpAny_pyIter_tupleiter st.1 hQ
end PySem
namespace GX
open PySem PySem.Spec PyProof.Rows L2 GxR
section
variable {X : Cx}
theorem pe_sumG {P : Addr} {ge : Expr} {t : L2.St → Hp → (List V → Hp → Prop) → Prop} {p pos : Pos} (hg : Gl X "sum") (hm : X.mg "sum" = none) (hb : bootBuiltins "sum" = some (.builtin "sum")) (G : PGn X P ge t)
    (he : starEach [ge] X.env = (false, eval ge X.env) :: starEach [] X.env := by rfl) :
    PE X (.Call (.Name "sum" p) [ge] [] pos) (fun σ H Q => t σ H fun ws H1 => ∃ ns : List Int, ws = ns.map V.int ∧ (∀ j, j < ns.length → InLong (ns.getD j 0) ∧ InLong (preSum (fun j => ns.getD j 0) (j + 1))) ∧ ∀ H2, Tabbed P H1 H2 → Q (.int (preSum (fun j => ns.getD j 0) ns.length)) H2) := by
  refine ⟨fun pins s σ H Q I h => ?_⟩
  refine wpAny_Call_Name_kw (ld_blt I hg hm hb ?_)
  refine PyProof.Rows.callWith_builtin1 ?_ he (by rfl)
  rw [he]
  refine Calls.spliced_cons (G.run pins s σ H _ _ I h fun ws H1 a s5 hR hG => ?_)
  obtain ⟨fp, wr, Gr, F, Sf, W, hst, hfp, hgm, hty, hF, hI⟩ := hG
  obtain ⟨ns, rfl, hlong, q⟩ := hR
  refine Calls.spliced_nil ?_
  refine call_sum_walkS (W.in4_1.self 0 _ _ _ hst ⟨a, fp, wr, Gr, _, F, Sf, fun j => ns.getD j 0, rfl, W.in4_1, hst, hfp, ?_, ?_, fun s' t' hmv => ?_⟩)
  · intro j y hy
    obtain ⟨v, hv, rv⟩ := hF j y hy
    rw [List.getElem?_map] at hv
    cases hb : ns[j]? with
    | none => rw [hb] at hv; cases hv
    | some b =>
      rw [hb] at hv
      cases hv
      obtain ⟨tk, rfl⟩ := rv
      exact ⟨tk, by show Value.int b tk = Value.int (ns.getD j 0) tk; rw [List.getD_eq_getElem?_getD, hb]; rfl⟩
  · intro j hj
    rw [List.length_map] at hj
    exact hlong j hj
  · obtain ⟨H2, hT, J⟩ := hI s' hmv
    rw [List.length_map]
    exact ⟨.int _, H2, J, ⟨_, rfl⟩, q H2 hT⟩
/-- over the pairs of a list -/
theorem pgn_pairsL {c P : Addr} {elt iter : Expr} {xa xb : Str} {pa pb pt gpos : Pos} {kt : Nat} {scope : Scope} {pre : L2.St → V → V → Prop} {g : L2.St → V → V → V} {k : Nat} {te : TE}
    (hr : Room k X.A) (TB : TabB X.base X.mg c P) (hcode : X.env.code = .ref c) (S : GenV X.env.scope scope xa) (Sb : scope.names.lookup xb = some .local) (hab : xa ≠ xb) (hi : PE X iter te) (hel : Elt2 X scope P xa xb elt pre g) (hs : ∀ v, genFold iter X.env v = pure v) :
    PGn X P (.GeneratorExp elt [⟨.Tuple [.Name xa pa, .Name xb pb] kt pt, iter, [], 0⟩] scope gpos)
      (fun σ H R => te σ H fun v H1 => ∃ (a : Addr) (ts : List Addr) (ps : List (V × V)), v = .ref a ∧ SqL X.K H1 a (ts.map V.ref) ∧ ts.length = ps.length ∧ (∀ (j : Nat) (p : V × V), ps[j]? = some p → ∃ t, ts[j]? = some t ∧ H1 t = some (.tup [p.1, p.2])) ∧ TabG H1 P ∧ (∀ v ∈ ps, pre σ v.1 v.2) ∧ R (ps.map fun v => g σ v.1 v.2) H1) := by
  refine ⟨fun pins s σ H R Qg I h hQ => gen2 (pins := pins) (σ := σ) hr TB hcode (S.to I) Sb hab hel hs ?_⟩
  refine thn (hi.run pins s σ H _ I h) fun xv s1 ⟨v, H1, I1, r1, a, ts, ps, ea, hX, hl, ht, hT, hp, q1⟩ => ?_
  subst ea
  obtain rfl : xv = Value.ref a := r1
  obtain ⟨its, rv, pl, _⟩ := I1.list hX
  have aL : a < s1.heap.objs.size := pl.lt
  refine ⟨H1, s1, I1, hT, wpAny_pyIter_list pl.isList ⟨ps, ?_, hp, fun b s5 hR => hQ _ H1 b s5 q1 hR⟩⟩
  obtain ⟨tb, hP, _⟩ := hT
  have tabS := I1.hok P _ hP
  have tabL : P < s1.heap.objs.size := Heap.lt_size tabS
  have lits : its.length = ps.length := by
    have := rv.length
    rw [List.length_map] at this
    omega
  have each : ∀ j, ∃ vz : Value × Value × Addr, j < ps.length → its[j]? = some (.ref vz.2.2) ∧ s1.heap.IsTuple vz.2.2 #[vz.1, vz.2.1] ∧ vz.2.2 ≠ P ∧ ∀ p, ps[j]? = some p → RelV p.1 vz.1 ∧ RelV p.2 vz.2.1 := fun j => by
    by_cases hj : j < ps.length
    · obtain ⟨t, e1, e2⟩ := ht j ps[j] (List.getElem?_eq_getElem hj)
      obtain ⟨_, us, ru, hu⟩ := I1.hok t _ e2
      cases ru with
      | cons ra rr =>
        cases rr with
        | cons rb rr =>
          cases rr
          obtain ⟨u, hu1, hu2⟩ := rv.get (show (ts.map V.ref)[j]? = some (.ref t) by rw [List.getElem?_map, e1]; rfl)
          obtain rfl : u = Value.ref t := hu2
          refine ⟨(_, _, t), fun _ => ⟨hu1, hu, fun z => ?_, fun p ep => ?_⟩⟩
          · have z : t = P := z
            rw [z, hP] at e2
            cases e2
          · rw [List.getElem?_eq_getElem hj] at ep
            cases ep
            exact ⟨ra, rb⟩
    · exact ⟨(.none, .none, 0), fun z => absurd z hj⟩
  obtain ⟨fz, hfz⟩ := Classical.axiomOfChoice each
  have isz : its.toArray.size = ps.length := by rw [List.size_toArray]; exact lits
  have W := fun (B : Around) (hB : B.handled = none) => WalksU.bound (WalksU.listOfTuples (prog := X.prog) (w := X.w) (A := B) hB s1.heap.objs.size a (Nat.ne_of_lt aL) its.toArray (fun j => (fz j).2.2) (fun j => #[(fz j).1, (fz j).2.1])
    (fun j hj => by rw [isz] at hj; simpa using (hfz j hj).1) (fun j hj => by
      rw [isz] at hj
      obtain ⟨o, ho, _⟩ := (hfz j hj).2.1
      exact Nat.ne_of_lt (Heap.lt_size ho)))
  rw [isz] at W
  refine ⟨s1.heap.objs.size, _, [s1.heap.objs.size], _, _, _, _, s1.toks, rfl, rfl, fun b u e => Heap.get?_push_of_some _ e, ?_, W, ⟨⟨_, Heap.get?_push_size _ rfl, rfl, rfl⟩, pl.isList.at fun o e => Heap.get?_push_of_some _ e, fun j hj => (hfz j hj).2.1.at fun o e => Heap.get?_push_of_some _ e⟩, fun b hb => ?_, fun b hb => ?_, fun i us hu => ?_⟩
  · rw [Heap.size_push]
    exact Nat.le_succ _
  · rw [Heap.size_push]
    rcases List.mem_cons.mp hb with z | z
    · rw [z]
      exact ⟨Nat.lt_succ_self _, fun z => Nat.ne_of_lt tabL z.symm⟩
    · rcases List.mem_cons.mp z with z | z
      · rw [z]
        refine ⟨Nat.lt_succ_of_lt aL, fun z2 => ?_⟩
        obtain ⟨o, ho, hc, _⟩ := pl.isList
        rw [z2, tabS] at ho
        cases ho
        cases hc
      · obtain ⟨j, hj, rfl⟩ := List.mem_map.mp z
        have hj := List.mem_range.mp hj
        obtain ⟨o, ho, _⟩ := (hfz j hj).2.1
        exact ⟨Nat.lt_succ_of_lt (Heap.lt_size ho), (hfz j hj).2.2.1⟩
  · rw [List.mem_singleton.mp hb]
    exact Nat.le_refl _
  · obtain ⟨hi, rfl⟩ := hu
    have hh := hfz i hi
    have e := List.getElem?_eq_getElem hi
    exact ⟨_, _, _, _, rfl, e, (hh.2.2.2 _ e).1, (hh.2.2.2 _ e).2⟩
/-- over the pairs of a tuple -/
theorem pgn_pairsT {c P : Addr} {elt iter : Expr} {xa xb : Str} {pa pb pt gpos : Pos} {kt : Nat} {scope : Scope} {pre : L2.St → V → V → Prop} {g : L2.St → V → V → V} {k : Nat} {te : TE}
    (hr : Room k X.A) (TB : TabB X.base X.mg c P) (hcode : X.env.code = .ref c) (S : GenV X.env.scope scope xa) (Sb : scope.names.lookup xb = some .local) (hab : xa ≠ xb) (hi : PE X iter te) (hel : Elt2 X scope P xa xb elt pre g) (hs : ∀ v, genFold iter X.env v = pure v) :
    PGn X P (.GeneratorExp elt [⟨.Tuple [.Name xa pa, .Name xb pb] kt pt, iter, [], 0⟩] scope gpos)
      (fun σ H R => te σ H fun v H1 => ∃ (a : Addr) (ts : List Addr) (ps : List (V × V)), v = .ref a ∧ SqT X.K H1 a (ts.map V.ref) ∧ ts.length = ps.length ∧ (∀ (j : Nat) (p : V × V), ps[j]? = some p → ∃ t, ts[j]? = some t ∧ H1 t = some (.tup [p.1, p.2])) ∧ TabG H1 P ∧ (∀ v ∈ ps, pre σ v.1 v.2) ∧ R (ps.map fun v => g σ v.1 v.2) H1) := by
  refine ⟨fun pins s σ H R Qg I h hQ => gen2 (pins := pins) (σ := σ) hr TB hcode (S.to I) Sb hab hel hs ?_⟩
  refine thn (hi.run pins s σ H _ I h) fun xv s1 ⟨v, H1, I1, r1, a, ts, ps, ea, hX, hl, ht, hT, hp, q1⟩ => ?_
  subst ea
  obtain rfl : xv = Value.ref a := r1
  obtain ⟨its, rv, pl, _⟩ := I1.tuple hX
  obtain ⟨ol, hol, olc, old⟩ := _root_.id pl
  have aL : a < s1.heap.objs.size := Heap.lt_size hol
  refine ⟨H1, s1, I1, hT, wpAny_pyIter_tuple (show s1.heap.IsTuple a its.toArray from pl) ⟨ps, ?_, hp, fun b s5 hR => hQ _ H1 b s5 q1 hR⟩⟩
  obtain ⟨tb, hP, _⟩ := hT
  have tabS := I1.hok P _ hP
  have tabL : P < s1.heap.objs.size := Heap.lt_size tabS
  have lits : its.length = ps.length := by
    have := rv.length
    rw [List.length_map] at this
    omega
  have each : ∀ j, ∃ vz : Value × Value × Addr, j < ps.length → its[j]? = some (.ref vz.2.2) ∧ s1.heap.IsTuple vz.2.2 #[vz.1, vz.2.1] ∧ vz.2.2 ≠ P ∧ ∀ p, ps[j]? = some p → RelV p.1 vz.1 ∧ RelV p.2 vz.2.1 := fun j => by
    by_cases hj : j < ps.length
    · obtain ⟨t, e1, e2⟩ := ht j ps[j] (List.getElem?_eq_getElem hj)
      obtain ⟨_, us, ru, hu⟩ := I1.hok t _ e2
      cases ru with
      | cons ra rr =>
        cases rr with
        | cons rb rr =>
          cases rr
          obtain ⟨u, hu1, hu2⟩ := rv.get (show (ts.map V.ref)[j]? = some (.ref t) by rw [List.getElem?_map, e1]; rfl)
          obtain rfl : u = Value.ref t := hu2
          refine ⟨(_, _, t), fun _ => ⟨hu1, hu, fun z => ?_, fun p ep => ?_⟩⟩
          · have z : t = P := z
            rw [z, hP] at e2
            cases e2
          · rw [List.getElem?_eq_getElem hj] at ep
            cases ep
            exact ⟨ra, rb⟩
    · exact ⟨(.none, .none, 0), fun z => absurd z hj⟩
  obtain ⟨fz, hfz⟩ := Classical.axiomOfChoice each
  have isz : its.toArray.size = ps.length := by rw [List.size_toArray]; exact lits
  have W := fun (B : Around) (hB : B.handled = none) => WalksU.bound (WalksU.tupleOfTuples (prog := X.prog) (w := X.w) (A := B) hB s1.heap.objs.size a (Nat.ne_of_lt aL) its.toArray (fun j => (fz j).2.2) (fun j => #[(fz j).1, (fz j).2.1])
    (fun j hj => by rw [isz] at hj; simpa using (hfz j hj).1) (fun j hj => by
      rw [isz] at hj
      obtain ⟨o, ho, _⟩ := (hfz j hj).2.1
      exact Nat.ne_of_lt (Heap.lt_size ho)))
  rw [isz] at W
  refine ⟨s1.heap.objs.size, _, [s1.heap.objs.size], _, _, _, _, s1.toks, rfl, rfl, fun b u e => Heap.get?_push_of_some _ e, ?_, W, ⟨⟨_, Heap.get?_push_size _ rfl, rfl, rfl⟩, ⟨ol, Heap.get?_push_of_some _ hol, olc, old⟩, fun j hj => (hfz j hj).2.1.at fun o e => Heap.get?_push_of_some _ e⟩, fun b hb => ?_, fun b hb => ?_, fun i us hu => ?_⟩
  · rw [Heap.size_push]
    exact Nat.le_succ _
  · rw [Heap.size_push]
    rcases List.mem_cons.mp hb with z | z
    · rw [z]
      exact ⟨Nat.lt_succ_self _, fun z => Nat.ne_of_lt tabL z.symm⟩
    · rcases List.mem_cons.mp z with z | z
      · rw [z]
        refine ⟨Nat.lt_succ_of_lt aL, fun z2 => ?_⟩
        rw [z2, tabS] at hol
        cases hol
        cases olc
      · obtain ⟨j, hj, rfl⟩ := List.mem_map.mp z
        have hj := List.mem_range.mp hj
        obtain ⟨o, ho, _⟩ := (hfz j hj).2.1
        exact ⟨Nat.lt_succ_of_lt (Heap.lt_size ho), (hfz j hj).2.2.1⟩
  · rw [List.mem_singleton.mp hb]
    exact Nat.le_refl _
  · obtain ⟨hi, rfl⟩ := hu
    have hh := hfz i hi
    have e := List.getElem?_eq_getElem hi
    exact ⟨_, _, _, _, rfl, e, (hh.2.2.2 _ e).1, (hh.2.2.2 _ e).2⟩
/-- the element: the second name -/
theorem elt_snd {scope : Scope} {P : Addr} {xa xb : Str} {p : Pos} (hk : scope.kind = .function) (hl : scope.names.lookup xb = some .local) (hd : (xb == ("__debug__" : Str)) = false := by decide) : Elt2 X scope P xa xb (.Name xb p) (fun _ _ _ => True) (fun _ _ w => w) := by
  intro pins σ H s1 cenv B Er s2 m2 v w u z I a hB hx hy rv rw' hp
  exact own_name a hk hl hy ⟨rw', keeps_refl _⟩ hd
theorem preSum_take (ns : List Int) : ∀ k, k ≤ ns.length → preSum (fun j => ns.getD j 0) k = (ns.take k).sum
  | 0, _ => by simp [preSum]
  | k + 1, h => by
    have ih := preSum_take ns k (by omega)
    show preSum (fun j => ns.getD j 0) k + ns.getD k 0 = _
    rw [ih, List.take_add_one, List.getD_eq_getElem?_getD, List.getElem?_eq_getElem (by omega), List.sum_append]
    simp
theorem preSum_all (ns : List Int) : preSum (fun j => ns.getD j 0) ns.length = ns.sum := by
  rw [preSum_take ns _ (Nat.le_refl _), List.take_of_length_le (Nat.le_refl _)]
end
end GX

set_option maxHeartbeats 1000000
namespace My
open PySem PySem.Spec PyProof.Rows L2 GX GxR
abbrev sTasks : Stmt := topS 9
theorem scTasks : FnScope ["pairs"] ["pairs"] (defScope sTasks) := ⟨rfl, rfl, rfl, by decide +kernel, rfl, by decide +kernel, by decide +kernel⟩
/-- a list of them, or a tuple -/
def spTasksA (K : PySem.W.Frag) (T : Addr) : Sp := fun vs H Q _ => ∃ (p : Addr) (us : List V) (ps : List (Str × Int)), vs = [.ref p] ∧ (H p = some (.lst us) ∨ Rd H p (.tup us)) ∧ PairVs H us ps ∧ ps.length ≤ 1000 ∧ (∀ q ∈ ps, -1000000000000 ≤ q.2 ∧ q.2 ≤ 1000000000000) ∧ TabG H T ∧
  ∀ H', TabG H' T → Kp [T] H H' → Q (.int (tasksOf ps)) H'
theorem PairVs.refs {H : Hp} : ∀ {us : List V} {ps : List (Str × Int)}, PairVs H us ps → ∃ ts : List Addr, us = ts.map V.ref ∧ ts.length = ps.length ∧ ∀ (j : Nat) (q : V × V), (ps.map fun q => (V.str q.1, V.int q.2))[j]? = some q → ∃ t, ts[j]? = some t ∧ H t = some (.tup [q.1, q.2])
  | _, _, .nil => ⟨[], rfl, rfl, fun j q e => by simp at e⟩
  | _, _, .cons (t := t) h r => by
    obtain ⟨ts, e1, e2, e3⟩ := r.refs
    refine ⟨t :: ts, by rw [e1]; rfl, by rw [List.length_cons, List.length_cons, e2], fun j q e => ?_⟩
    cases j with
    | zero => cases e; exact ⟨t, rfl, h⟩
    | succ j => exact e3 j q (by simpa using e)
theorem sum_bnd : ∀ (ns : List Int), (∀ x ∈ ns, -1000000000000 ≤ x ∧ x ≤ 1000000000000) → -(1000000000000 * (ns.length : Int)) ≤ ns.sum ∧ ns.sum ≤ 1000000000000 * (ns.length : Int)
  | [], _ => by simp
  | n :: ns, h => by
    obtain ⟨h1, h2⟩ := sum_bnd ns fun x hx => h x (List.mem_cons_of_mem _ hx)
    have h3 := h n List.mem_cons_self
    rw [List.sum_cons, List.length_cons]
    constructor <;> omega
section
variable {P : Program} {w : World} {K : PySem.W.Frag} {mg : Str → Option Value} {base : Heap}
theorem ok_tasksA {f c T : Addr} {fd : FuncData} {k : Nat} (F : FunC K "tasks_in" "tasks_in" sTasks f fd c) (mSum : mg "sum" = none) (TB : TabB base mg c T) : FnOk P w K mg base CX0 (k + 1) f fd ["pairs"] (spTasksA K T) := by
  refine F.ok scTasks (fun vs H Q E h => ?_) (fun A outer s H vs Q E hr h => ?_)
  · obtain ⟨p, us, ps, rfl, _⟩ := h
    rfl
  · obtain ⟨p, us, ps, rfl, e, hp, hl, hb, hT, q⟩ := h
    obtain ⟨ts, e1, e2, e3⟩ := hp.refs
    have bnd : ∀ x ∈ ps.map (·.2), -1000000000000 ≤ x ∧ x ≤ 1000000000000 := fun x hx => by
      obtain ⟨r, hr', rfl⟩ := List.mem_map.mp hx
      exact hb r hr'
    have b1 : ∀ j, j < (ps.map (·.2)).length → InLong ((ps.map (·.2)).getD j 0) := fun j hj => by
      rw [List.getD_eq_getElem?_getD, List.getElem?_eq_getElem hj]
      have := bnd _ (List.getElem_mem hj)
      show -(2 ^ 63) ≤ (ps.map (·.2))[j] ∧ (ps.map (·.2))[j] < 2 ^ 63
      omega
    have b2 : ∀ j, j < (ps.map (·.2)).length → InLong (preSum (fun j => (ps.map (·.2)).getD j 0) (j + 1)) := fun j hj => by
      rw [preSum_take _ (j + 1) hj]
      have := sum_bnd ((ps.map (·.2)).take (j + 1)) fun x hx => bnd x (List.mem_of_mem_take hx)
      have l1 : ((ps.map (·.2)).take (j + 1)).length ≤ 1000 := by rw [List.length_take, List.length_map]; omega
      show -(2 ^ 63) ≤ _ ∧ _ < 2 ^ 63
      omega
    rcases e with e | e
    · refine ⟨_, pss_one (ps_ret (pe_sumG (by rfl) mSum (by decide +kernel) (pgn_pairsL hr TB rfl (genS_of (by decide +kernel)) rfl (by decide) (pv 0) (elt_snd rfl rfl) (fun _ => rfl)))), ?_⟩
      refine ⟨_, rfl, p, ts, ps.map (fun r => (V.str r.1, V.int r.2)), rfl, ?_, by rw [List.length_map]; exact e2, e3, hT, fun _ _ => trivial, ps.map (·.2), ?_, fun j hj => ⟨b1 j hj, b2 j hj⟩, fun H2 ht => ?_⟩
      · rw [← e1]
        exact SqL.of e
      · rw [List.map_map, List.map_map]
        rfl
      · rw [preSum_all]
        exact q H2 ht.1 (kp_of_tabbed ht)
    · refine ⟨_, pss_one (ps_ret (pe_sumG (by rfl) mSum (by decide +kernel) (pgn_pairsT hr TB rfl (genS_of (by decide +kernel)) rfl (by decide) (pv 0) (elt_snd rfl rfl) (fun _ => rfl)))), ?_⟩
      refine ⟨_, rfl, p, ts, ps.map (fun r => (V.str r.1, V.int r.2)), rfl, ?_, by rw [List.length_map]; exact e2, e3, hT, fun _ _ => trivial, ps.map (·.2), ?_, fun j hj => ⟨b1 j hj, b2 j hj⟩, fun H2 ht => ?_⟩
      · rw [← e1]
        exact .inl e
      · rw [List.map_map, List.map_map]
        rfl
      · rw [preSum_all]
        exact q H2 ht.1 (kp_of_tabbed ht)
end
end My

set_option maxHeartbeats 1000000
namespace My
open PySem PySem.Spec PyProof.Rows L2 GX GxR
open PySem.W (alike alikeAll AllAlike Sortable)
def spTasks (K : PySem.W.Frag) (T : Addr) : Sp := fun vs H Q _ => ∃ (p : Addr) (us : List V) (ps : List (Str × Int)), vs = [.ref p] ∧ H p = some (.lst us) ∧ PairVs H us ps ∧ ps.length ≤ 1000 ∧ (∀ q ∈ ps, 0 ≤ q.2 ∧ q.2 ≤ 1000000000000) ∧ TabG H T ∧
  ∀ H', TabG H' T → Kp [T] H H' → Q (.int (tasksOf ps)) H'
theorem tasks_imp {P : Program} {w : World} {K : PySem.W.Frag} {mg : Str → Option Value} {base : Heap} {f T : Addr} {fd : FuncData} {k : Nat} (G : FnOk P w K mg base CX0 k f fd ["pairs"] (spTasksA K T)) : FnOk P w K mg base CX0 k f fd ["pairs"] (spTasks K T) :=
  G.imp fun vs H Q E h => by
    obtain ⟨p, us, ps, e, h1, h2, h3, h4, h5, q⟩ := h
    exact ⟨p, us, ps, e, .inl h1, h2, h3, fun x hx => ⟨by have := (h4 x hx).1; omega, (h4 x hx).2⟩, h5, q⟩
end My

set_option maxHeartbeats 1000000
namespace My
open PySem PySem.Spec PyProof.Rows L2 GX GxR
open PySem.W (alike alikeAll AllAlike Sortable)
abbrev sFirstY : Stmt := topS 14
abbrev nFY : List Str := ["many", "groups", "pairs"]
theorem scFirstY : FnScope nFY ["many", "groups"] (defScope sFirstY) := ⟨rfl, rfl, rfl, by decide +kernel, rfl, by decide +kernel, by decide +kernel⟩
def spFirstY (T : Addr) : Sp := fun vs H Q _ => ∃ (g : Addr) (many : Int) (ws : List (V × List (Str × Int))), vs = [.int many, .ref g] ∧ H g = some (.lst (ws.map (·.1))) ∧ (∀ w ∈ ws, GrpAt H w.1 w.2) ∧ TabG H T ∧
  ∀ (v : V) (H' : Hp), Fw [T] H H' → GrpAt H' v (firstFor many (ws.map (·.2))) → Q v H'
section
variable {P : Program} {w : World} {K : PySem.W.Frag} {mg : Str → Option Value} {base : Heap}
theorem ok_firstY {f fK T : Addr} {fd fdK : FuncData} {k : Nat} (F : Fun K "first_yard_for" "first_yard_for" sFirstY f fd) 
    (GK : FnOk P w K mg base CX0 k fK fdK ["pairs"] (spTasks K T)) (mK : mg "tasks_in" = some (.ref fK)) (kK : PySem.W.keepIn K (.ref fK) = true) (bK : L2.Binds K fdK ["pairs"] []) :
    FnOk P w K mg base CX0 (k + 1) f fd ["many", "groups"] (spFirstY T) := by
  refine F.ok scFirstY (fun vs H Q E h => ?_) (fun cdv A outer s H vs Q E hr h => ?_)
  · obtain ⟨g, many, ws, rfl, _⟩ := h
    rfl
  · obtain ⟨g, many, ws, rfl, e, hg, hT, q⟩ := h
    have tH : Tabs [T] H := fun T' h => by rw [List.mem_singleton.mp h]; exact hT
    have oneT : T ∈ [T] := List.mem_singleton.mpr rfl
    refine ⟨_, pss_cons (ps_for PassesOwn.never rfl (pi_list (pv 1)) (pg_name (i := 2) scFirstY.nd rfl (.inl rfl))
        (pss_one (ps_if (pt_cmpR op_ge (pe_call GK hr (by rfl) mK kK bK .nil pass0 (pa_cons (pv 2) pa_nil)) (pv 0) (nomark _)) (pss_one (ps_ret (pv 2))) pss_nil)))
      (pss_one (ps_ret (pe_lst pa_nil))), ?_⟩
    refine ⟨_, rfl, g, rfl, ⟨_, SqL.of e⟩, ?_⟩
    refine for_list (xs := ws.map (·.1)) (fun i σ H' => ∃ y2 : Option V, σ = [some (.int many), some (.ref g), y2] ∧ Fw [T] H H' ∧ ∀ ps ∈ (ws.map (·.2)).take i, ¬ many ≤ tasksOf ps) ⟨none, rfl, Fw.refl tH, fun _ h => by simp at h⟩ (fun i σ H' _ p => ?_) (fun i x σ H' hx p => ?_) (fun σ H' p => ?_)
    · obtain ⟨_, _, f1, _⟩ := p
      exact SqL.of (f1.lst tH e)
    · obtain ⟨y2, rfl, f1, p1⟩ := p
      rw [List.getElem?_map] at hx
      cases hw : ws[i]? with
      | none => rw [hw] at hx; cases hx
      | some wv =>
        rw [hw] at hx
        have hx : wv.1 = x := Option.some.inj hx
        subst hx
        have gw := (hg wv (List.mem_of_getElem? hw)).fw tH f1
        obtain ⟨a, us, ea, g1, g2, g3, g4⟩ := _root_.id gw
        refine ⟨_, rfl, a, us, wv.2, by rw [ea]; rfl, g1, g2, by omega, g4, f1.tabs T oneT, fun H2 tb k2 => ?_⟩
        have f2 : Fw [T] H H2 := f1.trans (Fw.step f1.tabs oneT k2 tb)
        have hi : i < (ws.map (·.2)).length := by rw [List.length_map]; exact (List.getElem?_eq_some_iff.mp hw).1
        have ei : (ws.map (·.2))[i]? = some wv.2 := by rw [List.getElem?_map, hw]; rfl
        refine ⟨_, rfl, tasksOf wv.2, many, rfl, rfl, _, rfl, ite2 (fun z => ?_) (fun z => ?_)⟩
        · have z1 : many ≤ tasksOf wv.2 := of_decide_eq_true z
          refine ⟨_, rfl, q wv.1 H2 f2 ?_⟩
          rw [firstFor_skip _ i p1, List.drop_eq_getElem_cons hi]
          have e5 : (ws.map (·.2))[i] = wv.2 := (List.getElem?_eq_some_iff.mp ei).2
          rw [e5]
          show GrpAt H2 wv.1 (if many ≤ tasksOf wv.2 then wv.2 else _)
          rw [if_pos z1]
          exact (hg wv (List.mem_of_getElem? hw)).fw tH f2
        · have z1 : ¬ many ≤ tasksOf wv.2 := fun y => z (decide_eq_true y)
          refine ⟨_, rfl, f2, fun ps hps => ?_⟩
          rw [List.take_add_one, ei] at hps
          rcases List.mem_append.mp hps with y | y
          · exact p1 ps y
          · have y : ps = wv.2 := by simpa using y
            rw [y]
            exact z1
    · obtain ⟨y2, rfl, f1, p1⟩ := p
      rw [List.length_map] at p1
      refine ⟨by show 0 ≤ sizeLine; decide, fun l nl => q (.ref l) _ (f1.then (same_upd nl)) ⟨l, [], rfl, upd_same, ?_⟩⟩
      rw [firstFor_skip _ ws.length p1, List.drop_of_length_le (by rw [List.length_map]; exact Nat.le_refl _)]
      exact ⟨.nil, by show 0 ≤ 500; decide, fun _ h => nomatch h⟩
end
end My

set_option maxHeartbeats 1000000
namespace My
open PySem PySem.Spec PyProof.Rows L2 GX GxR
open PySem.W (alike alikeAll AllAlike Sortable)
abbrev sFilled : Stmt := topS 16
abbrev nFi : List Str := ["many", "pairs", "placing", "to_place", "house", "n", "here"]
theorem scFilled : FnScope nFi ["many", "pairs"] (defScope sFilled) := ⟨rfl, rfl, rfl, by decide +kernel, rfl, by decide +kernel, by decide +kernel⟩
def spFilled (K : PySem.W.Frag) : Sp := fun vs H Q _ => ∃ (p : Addr) (many : Int) (us : List V) (ps : List (Str × Int)), vs = [.int many, .ref p] ∧ H p = some (.lst us) ∧ PairVs H us ps ∧ ps.length ≤ 500 ∧
  (0 < (fillAll many ps).2 → ∀ H', Same H H' → Q .non H') ∧ (¬ 0 < (fillAll many ps).2 → ∀ (t : Addr) (rs : List (Str × Int)) (H' : Hp), Same H H' → H t = none → rs.Perm (fillAll many ps).1 → sortedS (rs.map (·.1)) = true → PairsAt H' t rs → Q (.ref t) H')
section
variable {P : Program} {w : World} {K : PySem.W.Frag} {mg : Str → Option Value} {base : Heap}
theorem ok_filled {f : Addr} {fd : FuncData} {k : Nat} (F : Fun K "filled" "filled" sFilled f fd) (X : Txt mg) (mSorted : mg "sorted" = none) : FnOk P w K mg base CX0 (k + 1) f fd ["many", "pairs"] (spFilled K) := by
  refine F.ok scFilled (fun vs H Q E h => ?_) (fun cdv A outer s H vs Q E hr h => ?_)
  · obtain ⟨p, many, us, ps, rfl, _⟩ := h
    rfl
  · obtain ⟨p, many, us, ps, rfl, e, hp, hl, q1, q2⟩ := h
    refine ⟨_, pss_cons (ps_set (i := 2) scFilled.nd rfl (.inl rfl) (pe_lst pa_nil))
      (pss_cons (ps_set (i := 3) scFilled.nd rfl (.inl rfl) (pv 0))
      (pss_cons (ps_for PassesOwn.never rfl (pi_list (pv 1)) (pg_tup rfl (pgs_cons (pg_name (i := 4) scFilled.nd rfl (.inl rfl)) (pgs_cons (pg_name (i := 5) scFilled.nd rfl (.inl rfl)) pgs_nil)))
        (pss_cons (ps_set (i := 6) scFilled.nd rfl (.inl rfl) (pe_callB (call_min2 rfl) (by rfl) X.min (by decide +kernel) (pa_cons (pv 5) (pa_cons (pv 3) pa_nil))))
        (pss_one (ps_if (pt_cmpR op_gt (pv 6) pe_int (nomark _))
          (pss_cons (ps_expr (pe_bm PySem.F.plainAttrs_list PySem.F.slot_list_append PySem.F.type_list_append mt_append (pv 2) (pa_cons (pe_tup (pa_cons (pv 4) (pa_cons (pv 6) pa_nil))) pa_nil)))
          (pss_one (ps_aug (i := 3) scFilled.nd rfl (.inl rfl) (pv 6) iop_sub)))
          pss_nil))))
      (pss_cons (ps_if (pt_cmpR op_gt (pv 3) pe_int (nomark _)) (pss_one (ps_ret pe_non)) pss_nil)
      (pss_one (ps_ret (pe_callTy call_tuple_of (by rfl) X.tup bt_tuple (pa_cons (pe_callB (SX.cr_sortDt hr.units) (by rfl) mSorted (by decide +kernel) (pa_cons (pv 2) pa_nil)) pa_nil))))))), ?_⟩
    obtain ⟨ts, t1, t2, t3⟩ := hp.refs
    have lus : us.length = ps.length := hp.len
    refine ⟨by show 0 ≤ sizeLine; decide, fun l nl => ⟨_, rfl, _, rfl, p, rfl, ⟨_, SqL.of (same_upd nl _ _ e)⟩, ?_⟩⟩
    have nl' : H l = none := nl
    refine for_list (xs := us) (fun i σ H' => ∃ (y4 y5 y6 : Option V) (st : List (Str × Int) × Int), st = (ps.take i).foldl fillStep ([], many) ∧ σ = [some (.int many), some (.ref p), some (.ref l), some (.int st.2), y4, y5, y6] ∧ Same H H' ∧ ∃ vs, H' l = some (.lst vs) ∧ PairVs H' vs st.1)
      ⟨none, none, none, ([], many), rfl, rfl, same_upd nl, [], upd_same, .nil⟩ (fun i σ H' _ pp => ?_) (fun i x σ H' hx pp => ?_) (fun σ H' pp => ?_)
    · obtain ⟨_, _, _, _, _, _, p1, _⟩ := pp
      exact SqL.of (p1 _ _ e)
    · obtain ⟨y4, y5, y6, st, est, rfl, p1, vs, p2, p3⟩ := pp
      have hi : i < ps.length := by rw [← lus]; exact (List.getElem?_eq_some_iff.mp hx).1
      obtain ⟨t, e1, e2⟩ := t3 i (.str ps[i].1, .int ps[i].2) (by rw [List.getElem?_map, List.getElem?_eq_getElem hi]; rfl)
      have ex : x = .ref t := by
        rw [t1, List.getElem?_map, e1] at hx
        exact (Option.some.inj hx).symm
      subst ex
      have tk : (ps.take (i + 1)).foldl fillStep ([], many) = fillStep st ps[i] := by
        rw [List.take_add_one, List.getElem?_eq_getElem hi, List.foldl_append, ← est]
        rfl
      have lst : st.1.length ≤ 500 := by
        have := fill_len (ps.take i) ([], many)
        rw [← est, List.length_take] at this
        simp only [List.length_nil] at this
        omega
      have em : (if st.2 < ps[i].2 then st.2 else ps[i].2) = min ps[i].2 st.2 := by
        split <;> omega
      refine ⟨t, [.str ps[i].1, .int ps[i].2], rfl, SqT.of (p1 _ _ e2), rfl, .str ps[i].1, [.int ps[i].2], rfl, .int ps[i].2, [], rfl, rfl, ?_⟩
      refine ⟨_, rfl, _, rfl, ps[i].2, st.2, rfl, ?_⟩
      rw [em]
      refine ⟨_, rfl, min ps[i].2 st.2, 0, rfl, rfl, _, rfl, ite2 (fun z => ?_) (fun z => ?_)⟩
      · have z1 : 0 < min ps[i].2 st.2 := of_decide_eq_true z
        refine ⟨_, rfl, .inl ⟨rfl, _, SqL.of p2⟩, _, rfl, _, rfl, by show 2 ≤ sizeLine; decide, fun t5 n5 => ⟨l, _, _, rfl, rfl, same_upd n5 _ _ p2, ?_, ?_⟩⟩
        · rw [p3.len]
          exact small1000 (by omega)
        refine ⟨_, rfl, _, rfl, st.2, min ps[i].2 st.2, rfl, rfl, ?_⟩
        refine ⟨_, _, _, (st.1 ++ [(ps[i].1, min ps[i].2 st.2)], st.2 - min ps[i].2 st.2), ?_, rfl, same_putA (p1.trans (same_upd n5)) nl', _, upd_same, ?_⟩
        · rw [tk]
          unfold fillStep
          rw [if_pos z1]
        · exact ((p3.same (same_upd (o := .tup [.str ps[i].1, .int (min ps[i].2 st.2)]) n5)).snoc (t := t5) upd_same).put (same_upd n5 _ _ p2)
      · have z1 : ¬ 0 < min ps[i].2 st.2 := fun q => z (decide_eq_true q)
        refine ⟨_, _, _, st, ?_, rfl, p1, vs, p2, p3⟩
        rw [tk]
        unfold fillStep
        rw [if_neg z1]
    · obtain ⟨y4, y5, y6, st, est, rfl, p1, vs, p2, p3⟩ := pp
      rw [lus, List.take_of_length_le (Nat.le_refl _)] at est
      have est : st = fillAll many ps := est
      refine ⟨_, rfl, st.2, 0, rfl, rfl, _, rfl, ite2 (fun z => ?_) (fun z => ?_)⟩
      · have z1 : 0 < st.2 := of_decide_eq_true z
        rw [est] at z1
        exact q1 z1 _ p1
      · have z1 : ¬ 0 < st.2 := fun q => z (decide_eq_true q)
        rw [est] at z1
        obtain ⟨qs, g1, g2, g3⟩ := p3.zipped
        refine ⟨_, rfl, l, qs.map (fun r => (r.1, pD r.2)), rfl, ?_, fun b hb => ?_, fun d hd d' hd' => ?_, .inl fun d hd => ?_, fun cs pp hperm hpw npp => ?_⟩
        · rw [List.map_map]
          have e9 : qs.map ((fun b : V × PyData => b.1) ∘ fun r : V × (Str × Int) => (r.1, pD r.2)) = vs := g1
          rw [e9]
          exact SqL.of p2
        · obtain ⟨r, hr', rfl⟩ := List.mem_map.mp hb
          obtain ⟨t, e1, e2⟩ := g3 r hr'
          refine ⟨?_, by show 1 ≤ 50; decide⟩
          show Dp K H' r.1 (pD r.2)
          rw [e1]
          exact .tup (SqT.of e2) (.cons (.str _) (.cons (.int _) .nil))
        · rw [List.map_map] at hd hd'
          obtain ⟨r, hr', rfl⟩ := List.mem_map.mp hd
          obtain ⟨r', hr2, rfl⟩ := List.mem_map.mp hd'
          rfl
        · rw [List.map_map] at hd
          obtain ⟨r, hr', rfl⟩ := List.mem_map.mp hd
          exact ⟨_, _, rfl⟩
        obtain ⟨ws, wp, rfl⟩ := ST.perm_image hperm qs rfl
        refine ⟨pp, _, rfl, .inl ⟨SqL.of upd_same, fun t nt => ?_⟩⟩
        have s9 := p1.trans (same_upd (o := .lst ((ws.map fun r => (r.1, pD r.2)).map (·.1))) npp)
        refine q2 z1 t (ws.map (·.2)) _ (s9.trans (same_upd nt)) (s9.free nt) ?_ (sorted_pairs14 hpw) ⟨_, .inl upd_same, ?_⟩
        · rw [← est, ← g2]
          exact wp.map _
        · have eL : (ws.map fun r => (r.1, pD r.2)).map (·.1) = ws.map (·.1) := by rw [List.map_map]; rfl
          have base9 : PairVs (upd H' pp (.lst ((ws.map fun r => (r.1, pD r.2)).map (·.1)))) ((ws.map fun r => (r.1, pD r.2)).map (·.1)) (ws.map (·.2)) := by
            rw [eL]
            exact PairVs.of fun r hr' => by
              obtain ⟨t', e1, e2⟩ := g3 r (wp.mem_iff.mp hr')
              exact ⟨t', e1, same_upd npp _ _ e2⟩
          exact base9.same (same_upd nt)
end
end My

set_option maxHeartbeats 1000000
namespace My
open PySem PySem.Spec PyProof.Rows L2 GX GxR
open PySem.W (alike alikeAll AllAlike Sortable)
abbrev s_scFirsts : Stmt := topS 15
abbrev n_scFirsts : List Str := ["groups", "firsts", "pairs", "able", "house", "n"]
theorem scFirsts : FnScope n_scFirsts ["groups"] (defScope s_scFirsts) := ⟨rfl, rfl, rfl, by decide +kernel, rfl, by decide +kernel, by decide +kernel⟩
abbrev s_scToFill : Stmt := topS 13
abbrev n_scToFill : List Str := ["site", "many", "how", "counts"]
theorem scToFill : FnScope n_scToFill ["site", "many", "how", "counts"] (defScope s_scToFill) := ⟨rfl, rfl, rfl, by decide +kernel, rfl, by decide +kernel, by decide +kernel⟩
abbrev s_scPlaced : Stmt := topS 7
abbrev n_scPlaced : List Str := ["site", "many", "want", "how", "counts", "placing"]
theorem scPlaced : FnScope n_scPlaced ["site", "many", "want", "how"] (defScope s_scPlaced) := ⟨rfl, rfl, rfl, by decide +kernel, rfl, by decide +kernel, by decide +kernel⟩
def spFirsts : Sp := fun vs H Q _ => ∃ (g : Addr) (ws : List (V × List (Str × Int))), vs = [.ref g] ∧ H g = some (.lst (ws.map (·.1))) ∧ (∀ w ∈ ws, GrpAt H w.1 w.2) ∧ ws.length ≤ 40 ∧
  ∀ (v : V) (H' : Hp), Same H H' → GrpAt H' v (firstsOf (ws.map (·.2))) → Q v H'
def spToFill (T : Addr) : Sp := fun vs H Q _ => ∃ (s c : Addr) (n : Nat) (many : Int) (how : Str) (rs : List House) (ps : List (Str × Int)), vs = [.ref s, .int many, .str how, .ref c] ∧ SiteAt n H s rs ∧ PairsAt H c ps ∧ CntOk rs ps ∧ TabG H T ∧
  ∀ (v : V) (ys : List Str) (H' : Hp), Fw [T] H H' → YsOf (rs.map (·.yard)) ys → GrpAt H' v (toFill how many (ydOf rs) ys ps) → Q v H'
def spPlaced (Tc Tt : Addr) : Sp := fun vs H Q _ => ∃ (s pw : Addr) (many : Int) (how : Str) (want : List Int) (rs : List House), vs = [.ref s, .int many, .ref pw, .str how] ∧ SiteAt want.length H s rs ∧ H pw = some (.tup (want.map V.int)) ∧ Amt want ∧ (∃ n ∈ want, n ≠ 0) ∧ want.length ≤ 8 ∧ 1 ≤ many ∧ many ≤ 1000 ∧ Tabs [Tc, Tt] H ∧
  ∀ (t p : Addr) (rs' : List House) (ys : List Str) (H' : Hp), rs'.Perm rs → sortedS (rs'.map (·.name)) = true → YsOf (rs.map (·.yard)) ys → Fw [Tc, Tt] H H' → H t = none →
    ((placeOf many (toFill how many (ydOf rs) ys (rowsC (mostOf how many) want rs')) = none ∧ H' t = some (.tup [.str "none", .ref p]) ∧ PairsAt H' p (rowsC (mostOf how many) want rs')) ∨
     (∃ made out, placeOf many (toFill how many (ydOf rs) ys (rowsC (mostOf how many) want rs')) = some made ∧ out.Perm made ∧ sortedS (out.map (·.1)) = true ∧ H' t = some (.tup [.str "told", .ref p]) ∧ PairsAt H' p out)) → Q (.ref t) H'
section
variable {P : Program} {w : World} {K : PySem.W.Frag} {mg : Str → Option Value} {base : Heap}
theorem ok_firsts {f : Addr} {fd : FuncData} {k : Nat} (F : Fun K "first_of_yards" "first_of_yards" s_scFirsts f fd) : FnOk P w K mg base CX0 (k + 1) f fd ["groups"] spFirsts := by
  refine F.ok scFirsts (fun vs H Q E h => ?_) (fun cdv A outer s H vs Q E hr h => ?_)
  · obtain ⟨g, ws, rfl, _⟩ := h
    rfl
  · obtain ⟨g, ws, rfl, eg, hg, h40, q⟩ := h
    refine ⟨_, (pss_cons (ps_set (i := 1) scFirsts.nd rfl (.inl rfl) (pe_lst pa_nil))
(C8.pss_cut (ps_for PassesOwn.never rfl (pi_list (pv 0)) (pg_name (i := 2) scFirsts.nd rfl (.inl rfl))
  (pss_cons (ps_setLc (i := 3) (own := [("house", 4), ("n", 5)]) (g := (gTup K 2 (gCons (gName 4) (gCons (gName 5) gNil)))) rfl scFirsts.nd rfl rfl (sw_true rfl rfl rfl (by decide +kernel)) (pi_list (pv 2)) (blkOk_by (own := [("house", 4), ("n", 5)]) (N := n_scFirsts) (sc := defScope s_scFirsts) (by decide +kernel)) (fun _ _ _ _ _ => (pg_tup rfl (pgs_cons (pg_name (i := 4) scFirsts.nd rfl (.inl rfl)) (pgs_cons (pg_name (i := 5) scFirsts.nd rfl (.inl rfl)) pgs_nil)))) (fun _ _ _ _ _ => pts_one (pt_cmpR op_gt (pv 5) pe_int (nomark _))) (fun _ _ _ _ _ => (pe_tup (pa_cons (pv 4) (pa_cons (pv 5) pa_nil)))))
  (pss_one (ps_aug (i := 1) scFirsts.nd rfl (.inl rfl) (pe_slice sl_list (pv 3) po_none (po_some pe_int)) iop_ext))))
(pss_one (ps_ret (pv 1))))), ?_⟩
    refine ⟨by show 0 ≤ sizeLine; decide, fun l nl => ?_⟩
    refine ⟨fun σ H' => ∃ y2 y3, σ = [some (.ref g), some (.ref l), y2, y3, none, none] ∧ Same H H' ∧ GrpAt H' (.ref l) (firstsOf (ws.map (·.2))), ?_, fun σ H' p => ?_⟩
    · refine ⟨_, rfl, g, rfl, ⟨_, SqL.of (same_upd nl _ _ eg)⟩, ?_⟩
      refine for_list (xs := ws.map (·.1)) (fun i σ H' => ∃ y2 y3, σ = [some (.ref g), some (.ref l), y2, y3, none, none] ∧ Same H H' ∧ ∃ us, H' l = some (.lst us) ∧ PairVs H' us (firstsOf ((ws.take i).map (·.2)))) ⟨none, none, rfl, same_upd nl, [], upd_same, .nil⟩ (fun i σ H' _ p => ?_) (fun i x σ H' hx p => ?_) (fun σ H' p => ?_)
      · obtain ⟨_, _, _, p1, _⟩ := p
        exact SqL.of (p1 _ _ eg)
      · obtain ⟨y2, y3, rfl, p1, us, p2, p3⟩ := p
        rw [List.getElem?_map] at hx
        cases hw : ws[i]? with
        | none => rw [hw] at hx; cases hx
        | some wv =>
          rw [hw] at hx
          have hx : wv.1 = x := Option.some.inj hx
          subst hx
          have hi : i < ws.length := (List.getElem?_eq_some_iff.mp hw).1
          have hmem := List.mem_of_getElem? hw
          obtain ⟨a, xs, ea, g1, g2, g3, g4⟩ := (hg wv hmem).same p1
          rw [ea]
          refine ⟨_, rfl, a, rfl, ⟨_, SqL.of g1⟩, fun D nD => ?_⟩
          have lxs : xs.length = wv.2.length := g2.len
          refine lc_list (K := K) (xs := xs) (fun j H4 => Same H' H4 ∧ ∃ vs, H4 D = some (.lst vs) ∧ PairVs H4 vs (posP (wv.2.take j))) ⟨same_upd nD, [], upd_same, .nil⟩ (fun j H4 _ p => SqL.of (p.1 _ _ g1)) (fun j x H4 hx p => ?_) (fun H4 p => ?_)
          · obtain ⟨k1, vs, k2, k3⟩ := p
            have hj : j < wv.2.length := by rw [← lxs]; exact (List.getElem?_eq_some_iff.mp hx).1
            have hpj : wv.2[j]? = some wv.2[j] := List.getElem?_eq_getElem hj
            obtain ⟨t, e1, e2⟩ := g2.at j wv.2[j] hpj
            rw [hx] at e1
            cases e1
            have e2 := k1 _ _ e2
            have tk : posP (wv.2.take (j + 1)) = posP (wv.2.take j) ++ if 0 < wv.2[j].2 then [wv.2[j]] else [] := by
              rw [List.take_add_one, hpj]
              exact posP_snoc _ _
            have lf : (posP (wv.2.take j)).length ≤ 500 := by
              have := List.length_filter_le (fun q : Str × Int => decide (0 < q.2)) (wv.2.take j)
              rw [List.length_take] at this
              unfold posP
              omega
            refine ⟨t, [.str wv.2[j].1, .int wv.2[j].2], rfl, SqT.of e2, rfl, .str wv.2[j].1, [.int wv.2[j].2], rfl, .int wv.2[j].2, [], rfl, rfl, rfl, ?_⟩
            refine ⟨_, rfl, wv.2[j].2, 0, rfl, rfl, _, rfl, ite2 (fun z => ?_) (fun z => ?_)⟩
            · have z1 : 0 < wv.2[j].2 := of_decide_eq_true z
              refine ⟨_, rfl, _, rfl, by show 2 ≤ sizeLine; decide, fun t2 nt2 => ⟨vs, same_upd nt2 _ _ k2, ?_, same_putA (k1.trans (same_upd nt2)) nD, vs ++ [.ref t2], upd_same, ?_⟩⟩
              · rw [k3.len]
                exact small1000 (by omega)
              · rw [tk, if_pos z1]
                exact ((k3.same (same_upd (o := .tup [.str wv.2[j].1, .int wv.2[j].2]) nt2)).snoc (t := t2) upd_same).put (same_upd nt2 _ _ k2)
            · have z1 : ¬ 0 < wv.2[j].2 := fun e => z (decide_eq_true e)
              refine ⟨k1, vs, k2, ?_⟩
              rw [tk, if_neg z1, List.append_nil]
              exact k3
          · obtain ⟨k1, vs, k2, k3⟩ := p
            rw [lxs, List.take_of_length_le (Nat.le_refl _)] at k3
            refine ⟨_, rfl, _, rfl, 1, rfl, _, _, rfl, SqL.of k2, fun b nb => ?_⟩
            have ecut : cutV vs none (some 1) = vs.take 1 := cut_take vs 1
            rw [ecut]
            have hl := same_upd (o := HO.lst (vs.take 1)) nb _ _ (k1 _ _ p2)
            have lus : us.length ≤ 40 := by
              rw [p3.len]
              have := firsts_len ((ws.take i).map (·.2))
              rw [List.length_map, List.length_take] at this
              omega
            refine ⟨l, b, us, vs.take 1, rfl, rfl, hl, upd_same, ?_, _, _, rfl, same_putA ((p1.trans k1).trans (same_upd nb)) nl, us ++ vs.take 1, upd_same, ?_⟩
            · rw [List.length_take]
              exact Nat.le_of_lt (small1000 (by omega))
            · have etk : ws.take (i + 1) = ws.take i ++ [wv] := by rw [List.take_add_one, hw]; rfl
              rw [etk, List.map_append]
              show PairVs _ _ (firstsOf ((ws.take i).map (·.2) ++ [wv.2]))
              rw [firsts_snoc]
              have z1 := (p3.same k1).same (same_upd (o := .lst (vs.take 1)) nb)
              have z2 := (k3.take 1).same (same_upd (o := .lst (vs.take 1)) nb)
              exact (z1.append z2).put hl
      · obtain ⟨y2, y3, rfl, p1, us, p2, p3⟩ := p
        rw [List.length_map, List.take_of_length_le (Nat.le_refl _)] at p3
        refine ⟨y2, y3, rfl, p1, l, us, rfl, p2, p3, ?_, firsts_bnd fun gg hgg => ?_⟩
        · have := firsts_len (ws.map (·.2))
          rw [List.length_map] at this
          omega
        · obtain ⟨wv, hwv, rfl⟩ := List.mem_map.mp hgg
          obtain ⟨_, _, _, _, _, _, b⟩ := hg wv hwv
          exact b
    · obtain ⟨y2, y3, rfl, p1, p2⟩ := p
      exact ⟨_, rfl, q _ _ p1 p2⟩
theorem ok_toFill {f fF fB fO T : Addr} {fd fdF fdB fdO : FuncData} {k : Nat} {t1 t2 : Tok} (F : Fun K "pairs_to_fill" "pairs_to_fill" s_scToFill f fd) (X : Txt mg) (mNe : mg "NEAR" = some (.str "near" t1)) (mWi : mg "WIDE" = some (.str "wide" t2))
    (GF : FnOk P w K mg base CX0 k fF fdF ["many", "groups"] (spFirstY T)) (mF : mg "first_yard_for" = some (.ref fF)) (kF : PySem.W.keepIn K (.ref fF) = true) (bF : Binds K fdF ["many", "groups"] [])
    (GB : FnOk P w K mg base CX0 k fB fdB ["site", "counts"] spByY) (mB : mg "pairs_by_yards" = some (.ref fB)) (kB : PySem.W.keepIn K (.ref fB) = true) (bB : Binds K fdB ["site", "counts"] [])
    (GO : FnOk P w K mg base CX0 k fO fdO ["groups"] spFirsts) (mO : mg "first_of_yards" = some (.ref fO)) (kO : PySem.W.keepIn K (.ref fO) = true) (bO : Binds K fdO ["groups"] []) :
    FnOk P w K mg base CX0 (k + 1) f fd ["site", "many", "how", "counts"] (spToFill T) := by
  refine F.ok scToFill (fun vs H Q E h => ?_) (fun cdv A outer s H vs Q E hr h => ?_)
  · obtain ⟨s, c, n, many, how, rs, ps, rfl, _⟩ := h
    rfl
  · obtain ⟨s', c, n, many, how, rs, ps, rfl, hsite, hc, hok, hT, q⟩ := h
    refine ⟨_, (pss_cons (ps_if (pt_cmpR op_eq (pv 2) (pe_glob (v := .str "near") (by rfl) mNe ⟨_, rfl⟩) (nomark _))
  (pss_one (ps_ret (pe_call GF hr (by rfl) mF kF bF .nil pass0 (pa_cons (pv 1) (pa_cons (pe_call GB hr (by rfl) mB kB bB .nil pass0 (pa_cons (pv 0) (pa_cons (pv 3) pa_nil))) pa_nil)))))
  pss_nil)
(pss_cons (ps_if (pt_cmpR op_eq (pv 2) (pe_glob (v := .str "wide") (by rfl) mWi ⟨_, rfl⟩) (nomark _))
  (pss_one (ps_ret (pe_call GO hr (by rfl) mO kO bO .nil pass0 (pa_cons (pe_call GB hr (by rfl) mB kB bB .nil pass0 (pa_cons (pv 0) (pa_cons (pv 3) pa_nil))) pa_nil))))
  pss_nil)
(pss_one (ps_ret (pe_callTy call_list_of (by rfl) X.lst bt_list (pa_cons (pv 3) pa_nil)))))), ?_⟩
    have tH : Tabs [T] H := fun T' h => by rw [List.mem_singleton.mp h]; exact hT
    refine ⟨_, rfl, rfl, _, rfl, ite2 (fun z => ?_) (fun z => ?_)⟩
    · have z1 : how = "near" := by
        have := of_decide_eq_true z
        exact V.str.inj this
      refine ⟨_, rfl, _, rfl, _, rfl, s', c, n, rs, ps, rfl, hsite, hc, hok, fun g ws ys H1 s1 ng eg hg hgs l40 hys => ?_⟩
      have f1 := Fw.same tH s1
      refine ⟨g, many, ws, rfl, eg, fun w hw => (hg w hw).1, f1.tabs T (List.mem_singleton.mpr rfl), fun v H2 f2 hv => q v ys H2 (f1.trans f2) hys ?_⟩
      unfold toFill
      rw [if_pos z1, ← hgs]
      exact hv
    · have z1 : ¬ how = "near" := fun e => z (decide_eq_true (by rw [e]))
      refine ⟨_, rfl, rfl, _, rfl, ite2 (fun y => ?_) (fun y => ?_)⟩
      · have y1 : how = "wide" := V.str.inj (of_decide_eq_true y)
        refine ⟨_, rfl, _, rfl, s', c, n, rs, ps, rfl, hsite, hc, hok, fun g ws ys H1 s1 ng eg hg hgs l40 hys => ?_⟩
        refine ⟨g, ws, rfl, eg, fun w hw => (hg w hw).1, l40, fun v H2 s2 hv => q v ys H2 (Fw.same tH (s1.trans s2)) hys ?_⟩
        unfold toFill
        rw [if_neg z1, if_pos y1, ← hgs]
        exact hv
      · have y1 : ¬ how = "wide" := fun e => y (decide_eq_true (by rw [e]))
        obtain ⟨cs, hc1, hc2⟩ := hc
        obtain ⟨ys, hys⟩ := ys_ex (rs.map (·.yard))
        refine ⟨_, rfl, c, _, rfl, .inr (.inl hc1), fun l nl => q (.ref l) ys _ (Fw.same tH (same_upd nl)) hys ⟨l, cs, rfl, upd_same, ?_, ?_⟩⟩
        · unfold toFill
          rw [if_neg z1, if_neg y1]
          exact hc2.same (same_upd nl)
        · unfold toFill
          rw [if_neg z1, if_neg y1]
          exact ⟨by have := hok.few; omega, hok.bnd⟩
theorem ok_placed {f fC fF fP Tc Tt : Addr} {fd fdC fdF fdP : FuncData} {k : Nat} (F : Fun K "placed" "placed" s_scPlaced f fd)
    (GC : FnOk P w K mg base CX0 k fC fdC ["site", "many", "want", "how"] (spCounts Tc)) (mC : mg "counts_of" = some (.ref fC)) (kC : PySem.W.keepIn K (.ref fC) = true) (bC : Binds K fdC ["site", "many", "want", "how"] [])
    (GF : FnOk P w K mg base CX0 k fF fdF ["many", "pairs"] (spFilled K)) (mF : mg "filled" = some (.ref fF)) (kF : PySem.W.keepIn K (.ref fF) = true) (bF : Binds K fdF ["many", "pairs"] [])
    (GP : FnOk P w K mg base CX0 k fP fdP ["site", "many", "how", "counts"] (spToFill Tt)) (mP : mg "pairs_to_fill" = some (.ref fP)) (kP : PySem.W.keepIn K (.ref fP) = true) (bP : Binds K fdP ["site", "many", "how", "counts"] []) :
    FnOk P w K mg base CX0 (k + 1) f fd ["site", "many", "want", "how"] (spPlaced Tc Tt) := by
  refine F.ok scPlaced (fun vs H Q E h => ?_) (fun cdv A outer s H vs Q E hr h => ?_)
  · obtain ⟨s, pw, many, how, want, rs, rfl, _⟩ := h
    rfl
  · obtain ⟨s', pw, many, how, want, rs, rfl, hsite, hW, hA, hnz, h8, hm, hm2, hT, q⟩ := h
    refine ⟨_, (pss_cons (ps_set (i := 4) scPlaced.nd rfl (.inl rfl) (pe_call GC hr (by rfl) mC kC bC .nil pass0 (pa_cons (pv 0) (pa_cons (pv 1) (pa_cons (pv 2) (pa_cons (pv 3) pa_nil))))))
(pss_cons (ps_set (i := 5) scPlaced.nd rfl (.inl rfl) (pe_call GF hr (by rfl) mF kF bF .nil pass0 (pa_cons (pv 1) (pa_cons (pe_call GP hr (by rfl) mP kP bP .nil pass0 (pa_cons (pv 0) (pa_cons (pv 1) (pa_cons (pv 3) (pa_cons (pv 4) pa_nil))))) pa_nil))))
(pss_cons (ps_if (pt_cmpR op_isN (pv 5) pe_non (nomark _))
  (pss_one (ps_ret (pe_tup (pa_cons pe_str (pa_cons (pv 4) pa_nil)))))
  pss_nil)
(pss_one (ps_ret (pe_tup (pa_cons pe_str (pa_cons (pv 5) pa_nil)))))))), ?_⟩
    have inC : Tc ∈ [Tc, Tt] := List.mem_cons_self
    have inT : Tt ∈ [Tc, Tt] := List.mem_cons_of_mem _ List.mem_cons_self
    refine ⟨_, rfl, _, rfl, _, rfl, _, rfl, s', pw, many, how, want, rs, rfl, hsite, hW, hA, hnz, h8, hm, hT Tc inC, fun p rs' H1 rp so tb1 k1 np hp => ?_⟩
    have f1 : Fw [Tc, Tt] H H1 := Fw.step hT inC k1 tb1
    have hsite1 : SiteAt want.length H1 s' rs := by
      obtain ⟨us, hs1, hs2, r⟩ := hsite
      refine ⟨us, f1.lst hT hs1, hs2.imp fun v r hv => ?_, r⟩
      obtain ⟨x, l, e, g1, g2⟩ := hv
      exact ⟨x, l, e, f1.kt hT _ _ g1, f1.kt hT _ _ g2⟩
    have hcnt : CntOk rs (rowsC (mostOf how many) want rs') := by
      obtain ⟨us, hs1, hs2, hnd, h40, hall⟩ := hsite
      refine rows_cnt rp h40 ?_ ?_ (fun r hr' => ⟨(hall r hr').2.1, fun y hy => ((hall r hr').1 y hy).1⟩) ?_
      · unfold mostOf
        split <;> omega
      · unfold mostOf
        split <;> omega
      · obtain ⟨n, hn, nz⟩ := hnz
        exact ⟨n, hn, by have := (hA n hn).1; omega⟩
    refine ⟨_, rfl, _, rfl, _, rfl, _, rfl, _, rfl, s', p, want.length, many, how, rs, _, rfl, hsite1, hp.at, hcnt, f1.tabs Tt inT, fun v ys H2 f2 hys hg => ?_⟩
    have f12 : Fw [Tc, Tt] H1 H2 := ⟨f2.kp.mono fun x hx => (by rw [List.mem_singleton.mp hx]; exact inT), fun T' h' => by
      by_cases z : T' = Tt
      · rw [z]
        exact f2.tabs Tt (List.mem_singleton.mpr rfl)
      · exact TabG.kp f2.kp (fun q => z (List.mem_singleton.mp q)) (f1.tabs T' h')⟩
    have ff := f1.trans f12
    obtain ⟨a, us, rfl, e1, e2, e3, e4⟩ := hg
    refine ⟨a, many, us, _, rfl, e1, e2, e3, fun z H3 s3 => ?_, fun z t out H3 s3 nt op oso hpo => ?_⟩
    · have pn : placeOf many (toFill how many (ydOf rs) ys (rowsC (mostOf how many) want rs')) = none := by
        unfold placeOf
        rw [if_pos z]
      have hp3 := (hp.at.fw f1.tabs f12).same s3
      refine ⟨_, rfl, rfl, _, rfl, ite2 (fun _ => ?_) (fun z => absurd (decide_eq_true rfl) z)⟩
      refine ⟨_, rfl, by show 2 ≤ sizeLine; decide, fun t nt => ?_⟩
      exact q t p rs' ys _ rp so hys ((ff.then s3).then (same_upd nt)) ((ff.then s3).free hT nt) (.inl ⟨pn, upd_same, hp3.same (same_upd nt)⟩)
    · have pn : placeOf many (toFill how many (ydOf rs) ys (rowsC (mostOf how many) want rs')) = some (fillAll many (toFill how many (ydOf rs) ys (rowsC (mostOf how many) want rs'))).1 := by
        unfold placeOf
        rw [if_neg z]
      refine ⟨_, rfl, rfl, _, rfl, ite2 (fun z => absurd (of_decide_eq_true z) (fun e => by cases e)) (fun _ => ?_)⟩
      refine ⟨_, rfl, by show 2 ≤ sizeLine; decide, fun t' nt' => ?_⟩
      exact q t' t rs' ys _ rp so hys ((ff.then s3).then (same_upd nt')) ((ff.then s3).free hT nt') (.inr ⟨_, out, pn, op, oso, upd_same, hpo.same (same_upd nt')⟩)
end
end My

set_option maxHeartbeats 4000000
/-! generator expressions whose element reads the heap; over zip(list, list) -/
namespace GX
open PySem PySem.Spec PyProof.Rows L2 GxR
/-- the element, over two names, what it comes to told by the heap at the start -/
def Elt2H (X : Cx) (scope : Scope) (P : Addr) (xa xb : Str) (elt : Expr) (pre : L2.St → Hp → V → V → Prop) (g : L2.St → Hp → V → V → V) : Prop :=
  ∀ (pins : List (Addr × Obj)) (σ : L2.St) (H : Hp) (s1 : Shared) (cenv : Env) (B : Around) (Er : Value → Shared → Prop) (s2 : Shared) (m2 : Str → Option Value) (v w : V) (u z : Value),
    Inv X pins σ H s1 → Ask X scope P s1 cenv s2 m2 → B.handled = none → m2 xa = some u → m2 xb = some z → RelV v u → RelV w z → pre σ H v w →
    wpAny (model X.prog X.w) B (eval elt cenv) (fun y s3 => RelV (g σ H v w) y ∧ Keeps s2 s3) Er s2
section
variable {X : Cx} {pins : List (Addr × Obj)} {σ : L2.St} {H : Hp} {s : Shared}
theorem gen2H {c P : Addr} {elt iter : Expr} {xa xb : Str} {pa pb pt gpos : Pos} {kt : Nat} {scope : Scope} {pre : L2.St → Hp → V → V → Prop} {g : L2.St → Hp → V → V → V} {k : Nat} {Qg : Value → Shared → Prop}
    (hr : Room k X.A) (TB : TabB X.base X.mg c P) (hcode : X.env.code = .ref c) (S : GenS X.env scope xa) (Sb : scope.names.lookup xb = some .local) (hab : xa ≠ xb) (hel : Elt2H X scope P xa xb elt pre g) (hs : ∀ v, genFold iter X.env v = pure v)
    (h : wpAny (model X.prog X.w) X.A (eval iter X.env) (fun xv sA => ∃ H1 s1, Inv X pins σ H1 s1 ∧ TabG H1 P ∧
      wpAny (model X.prog X.w) X.A (pyIter xv) (fun it s2 => ∃ vs, Begun2 X P s1 vs it s2 ∧ (∀ v ∈ vs, pre σ H1 v.1 v.2) ∧ ∀ a s5, Ready X pins σ H1 P (vs.map fun v => g σ H1 v.1 v.2) a s5 → Qg (.ref a) s5) X.xe sA) X.xe s) :
    wpAny (model X.prog X.w) X.A (eval (.GeneratorExp elt [⟨.Tuple [.Name xa pa, .Name xb pb] kt pt, iter, [], 0⟩] scope gpos) X.env) Qg X.xe s := by
  refine wpAny_GeneratorExp_walksQT hr.hd S.co (closure_ok S.free) S.cell S.dot S.loc Sb hab S.kind (by have := hr.dp; omega) ?_ hs
  refine wpAny_mono h (fun xv sA h1 => ?_) (fun _ _ e => e)
  obtain ⟨H1, s1, I1, ⟨ps, hP, ht⟩, hit⟩ := h1
  refine wpAny_mono hit (fun it s2 h2 => ?_) (fun _ _ e => e)
  obtain ⟨vs, ⟨Ia, fp, wr, Pf, Sf, Mid, hp2, t2, rfl, rfl, kp, sz, W, st0, hfp, hwr, hPf⟩, hpre, hQ⟩ := h2
  have tabS : s1.heap.get? P = some { cls := .none, data := .fields ps } := I1.hok P _ hP
  have tabL : P < s1.heap.objs.size := Heap.lt_size tabS
  have tab2 : hp2.get? P = some { cls := .none, data := .fields ps } := kp _ _ tabS
  have cd : PySem.W.CodeHd hp2 c P := TB.code.keeps fun b u e => kp b u (I1.bk b u e)
  have lim : hp2.NoLimit := I1.nolimit.keeps kp
  refine ⟨lim, ?_⟩
  have cont : ∀ (code : Value) (h3 : Heap) (tk : Nat) (ps' : Array Value), Heap.ExtBut P hp2 h3 → hp2.objs.size ≤ h3.objs.size → h3.get? P = some { cls := .none, data := .fields ps' } → (∃ more, ps' = ps ++ more) → TriplesOk ps'.toList →
      wpAny (model X.prog X.w) X.A (builtinsFor X.env.globals X.env.builtins) (fun bi s4 =>
        ∃ I fp wr n0 P0 St0 M0 pz F, Value.ref Ia = .ref I ∧ (∀ B : Around, B.handled = none → WalksU X.prog X.w B I fp wr n0 P0 St0 M0) ∧ (∀ i vals, P0 i vals → ∃ va vb, vals = #[va, vb]) ∧ St0 0 s4.heap ∧ (∀ b ∈ fp, b < s4.heap.objs.size) ∧ s4.heap.NoLimit ∧ cStatics ∉ wr ∧
          (∀ hf : Heap, (∀ b o, s4.heap.get? b = some o → hf.get? b = some o) →
            QuietGenT X.prog X.w (genEnv scope (cloFrom X.env.cells scope.names []) s4.heap.objs.size code bi X.env) xa xb [] elt (List.range s4.heap.objs.size) wr P0 pz F hf) ∧
          (∀ a h5 tk gs, gs.bare = true → s4.heap.objs.size < a → h5.objs.size = a + 1 → (∀ b o, s4.heap.get? b = some o → h5.get? b = some o) →
            WalksS X.prog X.w X.A.in4 a (a :: s4.heap.objs.size :: List.range s4.heap.objs.size) (s4.heap.objs.size :: wr) (GenOnlyQ s4.gens.size) (passing pz n0 0).length
              (fun j y => ∃ i, (passing pz n0 0)[j]? = some i ∧ F i y) (GenAt X.prog X.w X.A.in4 a s4.gens.size s4.heap.objs.size (List.range s4.heap.objs.size) wr pz n0 F) →
            GenAt X.prog X.w X.A.in4 a s4.gens.size s4.heap.objs.size (List.range s4.heap.objs.size) wr pz n0 F 0 { s4 with gens := s4.gens.push gs, toks := tk, heap := h5 } →
            Qg (.ref a) { s4 with gens := s4.gens.push gs, toks := tk, heap := h5 })) X.xe { s1 with heap := h3, toks := tk } := by
    intro code h3 tk ps' hx hsz hP3 hmore ht3
    obtain ⟨bm, ob, e1, e2, e3, e4, e5, e6, e7, e8⟩ := TB.bm
    have kp3 : ∀ b u, b ≠ P → s1.heap.get? b = some u → h3.get? b = some u := fun b u hb e => hx b u hb (kp b u e)
    have ncs : cStatics < s1.heap.objs.size := let ⟨_, hns, _⟩ := I1.nolimit; hns.lt
    have ncP : cStatics ≠ P := fun e => by
      obtain ⟨_, ⟨o', es, ep, ho, hd, _⟩, _⟩ := I1.nolimit
      rw [e, tabS] at ho
      cases ho
      cases hd
    refine wpAny_builtinsFor (m := X.mg) (by rw [I1.ok.glob]; exact ((I1.mod.glob.keeps I1.bk).keeps kp).extBut hx TB.gP) e1 e2 (kp3 _ _ e4 (I1.bk _ _ e5)) e6 e7 e8 ?_
    refine ⟨Ia, fp, wr, vs.length, Pf, Sf, Mid, (fun _ => true), (fun i y => ∃ v, vs[i]? = some v ∧ RelV (g σ H1 v.1 v.2) y), rfl, W, (fun i vals hv => by obtain ⟨_, _, u, z, e, _⟩ := hPf i vals hv; exact ⟨u, z, e⟩), ?_, fun b hb => Nat.lt_of_lt_of_le (hfp b hb).1 hsz, lim.extBut hx ncP, fun z => Nat.lt_irrefl _ (Nat.lt_of_lt_of_le ncs (hwr _ z)), ?_, ?_⟩
    · exact (W X.A hr.hd).frame _ _ _ st0 fun b hb u e => hx b u (hfp b hb).2 e
    · intro hf hkf
      refine ⟨fun B Er i va vb s2 m2 hB hv hn hm hm' hk => ?_, fun B Er i va vb s2 m2 hB hv hp hn hm hm' hk => ?_⟩
      · simp only [List.forIn_nil]
        exact wpAny_pure ⟨rfl, keeps_refl _⟩
      · obtain ⟨v', w', u', z', eq, hv', rv, rw'⟩ := hPf i _ hv
        obtain ⟨rfl, rfl⟩ : va = u' ∧ vb = z' := by simpa using congrArg Array.toList eq
        have ask : Ask X scope P s1 (genEnv scope (cloFrom X.env.cells scope.names []) h3.objs.size code builtinsNs X.env) s2 m2 := by
          refine ⟨rfl, rfl, rfl, rfl, hn, fun b o hb e => ?_, ⟨ps, tabS⟩⟩
          have hl : b < s1.heap.objs.size := Heap.lt_size e
          refine hk b (List.mem_range.mpr (Nat.lt_of_lt_of_le hl (Nat.le_trans sz hsz))) (fun z => ?_) o (hkf b o (kp3 b o hb e))
          exact Nat.lt_irrefl _ (Nat.lt_of_lt_of_le hl (hwr b z))
        exact wpAny_mono (hel pins σ H1 s1 _ B Er s2 m2 v' w' va vb I1 ask hB hm hm' rv rw' (hpre (v', w') (List.mem_of_getElem? hv'))) (fun y s3 r => ⟨⟨(v', w'), hv', r.1⟩, r.2⟩) fun _ _ e => e
    · intro a h5 tk5 gs hgb hag hsz5 hk5 W5 hat
      simp only [all_pass, List.length_range] at W5
      refine hQ a _ ⟨_, _, _, _, _, by rw [List.length_map]; exact W5, hat, fun b hb => ?_, List.mem_cons_self, fun i s9 st => ?_, fun j y hy => ?_, fun s' hm => ?_⟩
      · show b < h5.objs.size
        rcases List.mem_cons.mp hb with z | z
        · rw [z, hsz5]
          exact Nat.lt_succ_self _
        · rcases List.mem_cons.mp z with z | z
          · rw [z, hsz5]
            exact Nat.lt_succ_of_lt hag
          · rw [hsz5]
            exact Nat.lt_succ_of_lt (Nat.lt_trans (List.mem_range.mp z) hag)
      · exact st.1.typeIs
      · obtain ⟨i, hij, v, hv, ry⟩ := hy
        obtain ⟨hj, ej⟩ := List.getElem?_eq_some_iff.mp hij
        rw [List.getElem_range] at ej
        subst ej
        exact ⟨g σ H1 v.1 v.2, by rw [List.getElem?_map, hv]; rfl, ry⟩
      · obtain ⟨more, em⟩ := hmore
        have nwr : ∀ b u, s1.heap.get? b = some u → b ∉ h3.objs.size :: wr := fun b u e hb => by
          have hl := Heap.lt_size e
          rcases List.mem_cons.mp hb with z | z
          · rw [z] at hl
            exact Nat.lt_irrefl _ (Nat.lt_of_lt_of_le hl (Nat.le_trans sz hsz))
          · exact Nat.lt_irrefl _ (Nat.lt_of_lt_of_le hl (hwr b z))
        have J := inv_tab (more := more) (h' := s'.heap) (g' := s'.gens) (d' := s'.drawn) (t' := s'.toks) I1 hP (fun b u hb e => hm.heap b u (nwr b u e) (hk5 b u (kp3 b u hb e)))
          (by rw [← em]; exact hm.heap P _ (nwr P _ tabS) (hk5 P _ hP3)) (AllBare.movedS (I1.bare.push hgb) hm)
        rw [sh_eta s1 s' hm.os] at J
        exact ⟨upd H1 P (.tbl (ps ++ more)), ⟨⟨ps ++ more, upd_same, by rw [← em]; exact ht3⟩, fun b hb => upd_ne hb⟩, J⟩
  cases hf : codeAmong gpos ps.toList with
  | none =>
    refine wpAny_genexprCodeX hcode (cd.code tab2 ht) (cd.tab tab2) hf fun c' h' tk hx hge hlt hco' _ htab' _ => ?_
    obtain ⟨o1, us, f1, tf, fl, tg, inF, tx, tt, op, _, _, _, _, _, _, _, _, _, htr, _⟩ := hco'
    exact cont _ h' tk _ hx (Nat.le_trans hge (Nat.le_of_lt hlt)) htab'.2 ⟨_, rfl⟩ htr
  | some cv =>
    refine wpAny_genexprCode_hit hcode (cd.code tab2 ht) hf ?_
    exact cont cv hp2 t2 ps (Heap.ExtBut.refl _ _) (Nat.le_refl _) tab2 ⟨#[], by simp⟩ ht
theorem pgn_pairsTH {c P : Addr} {elt iter : Expr} {xa xb : Str} {pa pb pt gpos : Pos} {kt : Nat} {scope : Scope} {pre : L2.St → Hp → V → V → Prop} {g : L2.St → Hp → V → V → V} {k : Nat} {te : TE}
    (hr : Room k X.A) (TB : TabB X.base X.mg c P) (hcode : X.env.code = .ref c) (S : GenV X.env.scope scope xa) (Sb : scope.names.lookup xb = some .local) (hab : xa ≠ xb) (hi : PE X iter te) (hel : Elt2H X scope P xa xb elt pre g) (hs : ∀ v, genFold iter X.env v = pure v) :
    PGn X P (.GeneratorExp elt [⟨.Tuple [.Name xa pa, .Name xb pb] kt pt, iter, [], 0⟩] scope gpos)
      (fun σ H R => te σ H fun v H1 => ∃ (a : Addr) (ts : List Addr) (ps : List (V × V)), v = .ref a ∧ SqT X.K H1 a (ts.map V.ref) ∧ ts.length = ps.length ∧ (∀ (j : Nat) (p : V × V), ps[j]? = some p → ∃ t, ts[j]? = some t ∧ H1 t = some (.tup [p.1, p.2])) ∧ TabG H1 P ∧ (∀ v ∈ ps, pre σ H1 v.1 v.2) ∧ R (ps.map fun v => g σ H1 v.1 v.2) H1) := by
  refine ⟨fun pins s σ H R Qg I h hQ => gen2H (pins := pins) (σ := σ) hr TB hcode (S.to I) Sb hab hel hs ?_⟩
  refine thn (hi.run pins s σ H _ I h) fun xv s1 ⟨v, H1, I1, r1, a, ts, ps, ea, hX, hl, ht, hT, hp, q1⟩ => ?_
  subst ea
  obtain rfl : xv = Value.ref a := r1
  obtain ⟨its, rv, pl, _⟩ := I1.tuple hX
  obtain ⟨ol, hol, olc, old⟩ := _root_.id pl
  have aL : a < s1.heap.objs.size := Heap.lt_size hol
  refine ⟨H1, s1, I1, hT, wpAny_pyIter_tuple (show s1.heap.IsTuple a its.toArray from pl) ⟨ps, ?_, hp, fun b s5 hR => hQ _ H1 b s5 q1 hR⟩⟩
  obtain ⟨tb, hP, _⟩ := hT
  have tabS := I1.hok P _ hP
  have tabL : P < s1.heap.objs.size := Heap.lt_size tabS
  have lits : its.length = ps.length := by
    have := rv.length
    rw [List.length_map] at this
    omega
  have each : ∀ j, ∃ vz : Value × Value × Addr, j < ps.length → its[j]? = some (.ref vz.2.2) ∧ s1.heap.IsTuple vz.2.2 #[vz.1, vz.2.1] ∧ vz.2.2 ≠ P ∧ ∀ p, ps[j]? = some p → RelV p.1 vz.1 ∧ RelV p.2 vz.2.1 := fun j => by
    by_cases hj : j < ps.length
    · obtain ⟨t, e1, e2⟩ := ht j ps[j] (List.getElem?_eq_getElem hj)
      obtain ⟨_, us, ru, hu⟩ := I1.hok t _ e2
      cases ru with
      | cons ra rr =>
        cases rr with
        | cons rb rr =>
          cases rr
          obtain ⟨u, hu1, hu2⟩ := rv.get (show (ts.map V.ref)[j]? = some (.ref t) by rw [List.getElem?_map, e1]; rfl)
          obtain rfl : u = Value.ref t := hu2
          refine ⟨(_, _, t), fun _ => ⟨hu1, hu, fun z => ?_, fun p ep => ?_⟩⟩
          · have z : t = P := z
            rw [z, hP] at e2
            cases e2
          · rw [List.getElem?_eq_getElem hj] at ep
            cases ep
            exact ⟨ra, rb⟩
    · exact ⟨(.none, .none, 0), fun z => absurd z hj⟩
  obtain ⟨fz, hfz⟩ := Classical.axiomOfChoice each
  have isz : its.toArray.size = ps.length := by rw [List.size_toArray]; exact lits
  have W := fun (B : Around) (hB : B.handled = none) => WalksU.bound (WalksU.tupleOfTuples (prog := X.prog) (w := X.w) (A := B) hB s1.heap.objs.size a (Nat.ne_of_lt aL) its.toArray (fun j => (fz j).2.2) (fun j => #[(fz j).1, (fz j).2.1])
    (fun j hj => by rw [isz] at hj; simpa using (hfz j hj).1) (fun j hj => by
      rw [isz] at hj
      obtain ⟨o, ho, _⟩ := (hfz j hj).2.1
      exact Nat.ne_of_lt (Heap.lt_size ho)))
  rw [isz] at W
  refine ⟨s1.heap.objs.size, _, [s1.heap.objs.size], _, _, _, _, s1.toks, rfl, rfl, fun b u e => Heap.get?_push_of_some _ e, ?_, W, ⟨⟨_, Heap.get?_push_size _ rfl, rfl, rfl⟩, ⟨ol, Heap.get?_push_of_some _ hol, olc, old⟩, fun j hj => (hfz j hj).2.1.at fun o e => Heap.get?_push_of_some _ e⟩, fun b hb => ?_, fun b hb => ?_, fun i us hu => ?_⟩
  · rw [Heap.size_push]
    exact Nat.le_succ _
  · rw [Heap.size_push]
    rcases List.mem_cons.mp hb with z | z
    · rw [z]
      exact ⟨Nat.lt_succ_self _, fun z => Nat.ne_of_lt tabL z.symm⟩
    · rcases List.mem_cons.mp z with z | z
      · rw [z]
        refine ⟨Nat.lt_succ_of_lt aL, fun z2 => ?_⟩
        rw [z2, tabS] at hol
        cases hol
        cases olc
      · obtain ⟨j, hj, rfl⟩ := List.mem_map.mp z
        have hj := List.mem_range.mp hj
        obtain ⟨o, ho, _⟩ := (hfz j hj).2.1
        exact ⟨Nat.lt_succ_of_lt (Heap.lt_size ho), (hfz j hj).2.2.1⟩
  · rw [List.mem_singleton.mp hb]
    exact Nat.le_refl _
  · obtain ⟨hi, rfl⟩ := hu
    have hh := hfz i hi
    have e := List.getElem?_eq_getElem hi
    exact ⟨_, _, _, _, rfl, e, (hh.2.2.2 _ e).1, (hh.2.2.2 _ e).2⟩
theorem pgn_zipL {c P : Addr} {elt e1 e2 : Expr} {xa xb : Str} {pa pb pt gpos pz pn : Pos} {kt : Nat} {scope : Scope} {pre : L2.St → V → V → Prop} {g : L2.St → V → V → V} {k : Nat} {ta : TA}
    (hr : Room k X.A) (TB : TabB X.base X.mg c P) (hcode : X.env.code = .ref c) (S : GenV X.env.scope scope xa) (Sb : scope.names.lookup xb = some .local) (hab : xa ≠ xb) (hg : Gl X "zip") (hm : X.mg "zip" = none) (ha : PA X [e1, e2] ta) (hel : Elt2 X scope P xa xb elt pre g)
    (hs : ∀ v, genFold (.Call (.Name "zip" pn) [e1, e2] [] pz) X.env v = pure v)
    (he : starEach [e1, e2] X.env = (false, eval e1 X.env) :: starEach [e2] X.env := by rfl) (hpl : (backTo pz (starEach [e2] X.env)).any (·.1) = false := by rfl) :
    PGn X P (.GeneratorExp elt [⟨.Tuple [.Name xa pa, .Name xb pb] kt pt, .Call (.Name "zip" pn) [e1, e2] [] pz, [], 0⟩] scope gpos)
      (fun σ H R => ta σ H fun vs H1 => ∃ (a b : Addr) (xs ys : List V), vs = [.ref a, .ref b] ∧ SqL X.K H1 a xs ∧ SqL X.K H1 b ys ∧ TabG H1 P ∧ (∀ v ∈ xs.zip ys, pre σ v.1 v.2) ∧ R ((xs.zip ys).map fun v => g σ v.1 v.2) H1) := by
  refine ⟨fun pins s σ H R Qg I h hQ => gen2 (pins := pins) (σ := σ) hr TB hcode (S.to I) Sb hab hel hs ?_⟩
  refine Call_ (ld_blt I hg hm PyProof.Rows.boot_zip (PyProof.Rows.callWith_type1 (thn (ha.run pz pins s σ H _ I h) fun us s1 ⟨vs, H1, I1, r1, q1⟩ => ?_) he hpl))
  obtain ⟨a, b, xs, ys, ex, hX, hY, hT, hp, q1⟩ := q1
  subst ex
  obtain ⟨u1, u2, rfl, ra, rb⟩ := vals2 r1
  obtain rfl : u1 = Value.ref a := ra
  obtain rfl : u2 = Value.ref b := rb
  obtain ⟨its, rv, p1', _⟩ := I1.list hX
  have p1 := p1'.isList
  obtain ⟨jts, rw', p2', _⟩ := I1.list hY
  have p2 := p2'.isList
  obtain ⟨o1, ho1, oc1, od1⟩ := _root_.id p1
  obtain ⟨o2, ho2, oc2, od2⟩ := _root_.id p2
  have aL : a < s1.heap.objs.size := Heap.lt_size ho1
  have bL : b < s1.heap.objs.size := Heap.lt_size ho2
  refine PySem.call_zip_2 p1 p2 fun h' hz hTI hTO h1 h2 hsz hk => ?_
  refine ⟨H1, s1, I1, hT, wpAny_pyIter_zip hz ⟨xs.zip ys, ?_, hp, fun w s5 hR => hQ _ H1 w s5 q1 hR⟩⟩
  obtain ⟨ps, hP, _⟩ := hT
  have tabS := I1.hok P _ hP
  have tabL : P < s1.heap.objs.size := Heap.lt_size tabS
  have ne1 : a ≠ P := fun z2 => by
    have e2 : s1.heap.get? P = some o1 := by rw [← z2]; exact ho1
    have e3 := e2.symm.trans tabS
    cases e3
    cases oc1
  have ne2 : b ≠ P := fun z2 => by
    have e2 : s1.heap.get? P = some o2 := by rw [← z2]; exact ho2
    have e3 := e2.symm.trans tabS
    cases e3
    cases oc2
  have W := fun (B : Around) (hB : B.handled = none) => (WalksT.zipD2 (prog := X.prog) (w := X.w) (A := B)
    (zip_sep2 (N := s1.heap.objs.size) (fp1 := [a]) (fp2 := [b]) (fun c hc => by rw [List.mem_singleton.mp hc]; exact aL) (fun c hc => by rw [List.mem_singleton.mp hc]; exact bL))
    (Draws.list (A := B.in1) hB s1.heap.objs.size a (Nat.ne_of_lt aL) its.toArray) (Draws.list (A := B.in1) hB (s1.heap.objs.size + 1) b (Nat.ne_of_lt (Nat.lt_succ_of_lt bL)) jts.toArray)).toU
  have hn : (xs.zip ys).length = min its.toArray.size jts.toArray.size := by rw [List.length_zip, rv.length, rw'.length, List.size_toArray, List.size_toArray]
  rw [← hn] at W
  refine ⟨_, _, _, _, _, _, h', s1.toks, rfl, rfl, hk, by rw [hsz]; exact Nat.le_add_right _ _, W, ⟨hz, hTI, ⟨_, _, hTO⟩, ⟨h1, ⟨o1, hk _ _ ho1, oc1, od1⟩⟩, ⟨h2, ⟨o2, hk _ _ ho2, oc2, od2⟩⟩⟩, fun d hd => ?_, fun d hd => ?_, fun i us hu => ?_⟩
  · rw [hsz]
    have hd2 : d = s1.heap.objs.size + 4 ∨ d = s1.heap.objs.size + 2 ∨ d = s1.heap.objs.size + 3 ∨ d = s1.heap.objs.size ∨ d = a ∨ d = s1.heap.objs.size + 1 ∨ d = b := by simpa using hd
    rcases hd2 with z | z | z | z | z | z | z
    · rw [z]; exact ⟨Nat.add_lt_add_left (by decide) _, fun q => Nat.lt_irrefl _ (Nat.lt_of_le_of_lt (Nat.le_add_right _ 4) (q ▸ tabL))⟩
    · rw [z]; exact ⟨Nat.add_lt_add_left (by decide) _, fun q => Nat.lt_irrefl _ (Nat.lt_of_le_of_lt (Nat.le_add_right _ 2) (q ▸ tabL))⟩
    · rw [z]; exact ⟨Nat.add_lt_add_left (by decide) _, fun q => Nat.lt_irrefl _ (Nat.lt_of_le_of_lt (Nat.le_add_right _ 3) (q ▸ tabL))⟩
    · rw [z]; exact ⟨Nat.lt_add_of_pos_right (by decide), fun q => Nat.lt_irrefl _ (q ▸ tabL)⟩
    · rw [z]; exact ⟨Nat.lt_of_lt_of_le aL (Nat.le_add_right _ 5), ne1⟩
    · rw [z]; exact ⟨Nat.add_lt_add_left (by decide) _, fun q => Nat.lt_irrefl _ (Nat.lt_of_le_of_lt (Nat.le_add_right _ 1) (q ▸ tabL))⟩
    · rw [z]; exact ⟨Nat.lt_of_lt_of_le bL (Nat.le_add_right _ 5), ne2⟩
  · have hd2 : d = s1.heap.objs.size + 4 ∨ d = s1.heap.objs.size + 3 ∨ d = s1.heap.objs.size ∨ d = s1.heap.objs.size + 1 := by simpa using hd
    rcases hd2 with z | z | z | z
    · rw [z]; exact Nat.le_add_right _ _
    · rw [z]; exact Nat.le_add_right _ _
    · rw [z]; exact Nat.le_refl _
    · rw [z]; exact Nat.le_add_right _ _
  · obtain ⟨x1, x2, hx1, hx2, rfl⟩ := hu
    have hu2 : its[i]? = some x1 := by simpa using hx1
    have hw2 : jts[i]? = some x2 := by simpa using hx2
    have hi3 : i < xs.length := by rw [rv.length]; exact (List.getElem?_eq_some_iff.mp hu2).1
    have hj3 : i < ys.length := by rw [rw'.length]; exact (List.getElem?_eq_some_iff.mp hw2).1
    obtain ⟨u', hu', ru⟩ := rv.get (List.getElem?_eq_getElem hi3)
    rw [hu2] at hu'
    cases hu'
    obtain ⟨w', hw', rw2⟩ := rw'.get (List.getElem?_eq_getElem hj3)
    rw [hw2] at hw'
    cases hw'
    exact ⟨xs[i], ys[i], _, _, rfl, by rw [List.getElem?_zip_eq_some]; exact ⟨List.getElem?_eq_getElem hi3, List.getElem?_eq_getElem hj3⟩, ru, rw2⟩
/-- the element: one text is below the other -/
def ltS (v w : V) : V := match v, w with
  | .str a, .str b => .bl (decide (a.cps.toList < b.cps.toList))
  | _, _ => .bl false
theorem elt_ltS {scope : Scope} {P : Addr} {xa xb : Str} {p1 p2 p3 : Pos} (hk : scope.kind = .function) (hl : scope.names.lookup xa = some .local) (hl2 : scope.names.lookup xb = some .local)
    (hd : (xa == ("__debug__" : Str)) = false := by decide) (hd2 : (xb == ("__debug__" : Str)) = false := by decide) :
    Elt2 X scope P xa xb (.Compare (.Name xa p1) [.Lt] [.Name xb p2] p3) (fun _ v w => ∃ a b : Str, v = .str a ∧ w = .str b) (fun _ v w => ltS v w) := by
  intro pins σ H s1 cenv B Er s2 m2 v w u z I a hB hx hy rv rw' hp
  obtain ⟨c, d, rfl, rfl⟩ := hp
  obtain ⟨t, rfl⟩ := rv
  obtain ⟨t', rfl⟩ := rw'
  refine wpAny_Compare1 (own_name a hk hl hx (own_name a hk hl2 hy ?_ hd2) hd)
  exact PyProof.Rows.lt_str ⟨rfl, keeps_refl _⟩
end
end GX
namespace GX
open PySem PySem.Spec PyProof.Rows L2 GxR
/-- what a dict holds at a text, else nought -/
def getI (H : Hp) (d : V) (a : Str) : Int := match d with
  | .ref x => match H x with
    | some (.dK kvs) => match valV kvs (Sum.inr a : Key) with
      | some (.int m) => m
      | _ => 0
    | _ => 0
  | _ => 0
def btw (i : Nat) (σ : L2.St) (H : Hp) (v w : V) : V := match v, w, σ[i]? with
  | .str a, .int n, some (some d) => .bl (decide (1 ≤ n) && decide (n ≤ getI H d a))
  | _, _, _ => .bl false
section
variable {X : Cx}
theorem elt_btw {scope : Scope} {P : Addr} {xa xb yd : Str} {i : Nat} {j1 j2 : Nat} {q1 q2 p1 p2 p3 p4 p5 p6 : Pos} (hk : scope.kind = .function) (hl : scope.names.lookup xa = some .local) (hl2 : scope.names.lookup xb = some .local) (hf : scope.names.lookup yd = some .free) (hN : X.N[i]? = some yd) (hc : X.env.scope.names.lookup yd = some .cell)
    (hm : ∀ env : Env, attributeBase (.Name yd p2) ("get" : Str) env (eval (.Name yd p2) env) = eval (.Name yd p2) env ∧ ((backTo p5 (starEach [.Name xa p4, .Constant (.int 0) j2 q2] env)).all (fun x => !x.1) && (backToKw p5 (keywordEach [] env)).all (fun x => x.1.isSome)
      && decide (([.Name xa p4, .Constant (.int 0) j2 q2] : List Expr).length + ([] : List Keyword).length + (if ([] : List Keyword).isEmpty then 0 else 1) < 30)) = true ∧ (p3.endLine == p5.line) = true ∧ backTo p5 (starEach [.Name xa p4, .Constant (.int 0) j2 q2] env) = [(false, eval (.Name xa p4) env), (false, eval (.Constant (.int 0) j2 q2) env)])
    (hd : (xa == ("__debug__" : Str)) = false := by decide) (hd2 : (xb == ("__debug__" : Str)) = false := by decide) (hd3 : (yd == ("__debug__" : Str)) = false := by decide) (hcd : (yd == ("__classdict__" : Str)) = false := by decide)
    (hlm : lastMarks [.LtE, .LtE] [.Name xb p1, .Call (.Attribute (.Name yd p2) ("get" : Str) p3) [.Name xa p4, .Constant (.int 0) j2 q2] [] p5] = false := by with_unfolding_all rfl) :
    Elt2H X scope P xa xb (.Compare (.Constant (.int 1) j1 q1) [.LtE, .LtE] [.Name xb p1, .Call (.Attribute (.Name yd p2) ("get" : Str) p3) [.Name xa p4, .Constant (.int 0) j2 q2] [] p5] p6)
      (fun σ H v w => ∃ (a : Str) (n : Int) (d : Addr) (kvs : List (Key × V)), v = .str a ∧ w = .int n ∧ σ[i]? = some (some (.ref d)) ∧ H d = some (.dK kvs) ∧ (∀ v, valV kvs (Sum.inr a : Key) = some v → ∃ m, v = .int m)) (fun σ H v w => btw i σ H v w) := by
  intro pins σ H s1 cenv B Er s2 m2 v w u z I ask hB hx hy rv rw' hp
  obtain ⟨a, n, d, kvs, rfl, rfl, hσ, hdk, hin⟩ := hp
  obtain ⟨t, rfl⟩ := rv
  obtain ⟨t', rfl⟩ := rw'
  obtain ⟨hbase, hfew, hline, htrees⟩ := hm cenv
  have hdP : d ≠ P := fun e => by
    obtain ⟨ps, hps⟩ := ask.tb
    obtain ⟨_, _, vs, _, dd⟩ := I.hok d _ hdk
    obtain ⟨o, _, _, ho, hex, hdat, _⟩ := dd
    rw [e, hps] at ho
    cases ho
    cases hdat
  have ebt : btw i σ H (.str a) (.int n) = .bl (decide (1 ≤ n) && decide (n ≤ getI H (.ref d) a)) := by
    unfold btw
    rw [hσ]
  show wpAny _ _ _ (fun y s3 => RelV (btw i σ H (.str a) (.int n)) y ∧ Keeps s2 s3) _ _
  rw [ebt]
  refine Compare_chain (wpAny_Constant_int (chain_link ?_)) hlm
  have ask3 : Ask X scope P s1 cenv { s2 with toks := s2.toks + 1 } m2 := ask.step (keeps_tok _ _)
  refine own_name ask3 hk hl2 hy ?_ hd2
  refine le_int (wpAny_truthy_bool ?_)
  by_cases h1 : 1 ≤ n
  · rw [decide_eq_true h1]
    refine ite_tt (chain_last ?_)
    refine wpAny_Call_method hbase hfew hline PySem.F.plainAttrs_dict PySem.F.slot_dict_get PySem.F.type_dict_get (free_name ask3 I hk hf hN hc hσ (fun z rz => ?_) hd3 hcd)
    obtain rfl : z = Value.ref d := rz
    obtain ⟨hlen, hsm, vs, rel, dd⟩ := I.hok d _ hdk
    have dd3 := dd.at (h' := s2.heap) fun o e => ask.kp d o hdP e
    refine ⟨dd3.typeIs, fun b q => ?_, ?_⟩
    · cases q
      obtain ⟨ob, _, _, h1, h2, _⟩ := dd3
      exact ⟨ob, h1, h2.2.1⟩
    rw [htrees]
    refine Calls.callWith_builtin rfl (Calls.evalArgs_plain (Calls.spliced_cons (own_name ask3 hk hl hx ?_ hd)))
    refine Calls.spliced_cons (wpAny_Constant_int (Calls.spliced_nil ?_))
    refine call_meetsIn PySem.F.slot_dict_get (dd3.typeIs (s := { s2 with toks := s2.toks + 1 + 1 })) PySem.F.entry_dict_get (PySem.F.args_dict_get_3 _ _ _) (meets_dict_get_default (mixKind X.prog X.w) d (kV_is (k := (Sum.inr a : Key)) (show RelV (.str a) (.str a t) from ⟨t, rfl⟩)) hsm _) ⟨_, dd3.mapOf, ?_⟩
    have rr := (rel.val (Sum.inr a : Key)).getD (d := .int 0) (d' := .int 0 (s2.toks + 1)) ⟨_, rfl⟩
    have em : (valV kvs (Sum.inr a : Key)).getD (.int 0) = .int (getI H (.ref d) a) := by
      unfold getI
      simp only [hdk]
      cases e : valV kvs (Sum.inr a : Key) with
      | none => rfl
      | some v =>
        obtain ⟨m, rfl⟩ := hin v e
        rfl
    rw [em] at rr
    show wpAny _ B (compareOp .LtE (Value.int n t') ((valueAt vs (Sum.inr a : Key)).getD (.int 0 (s2.toks + 1)))) _ _ _
    obtain ⟨tk, etk⟩ := rr
    rw [etk]
    refine le_int ⟨?_, s2.heap, _, rfl, fun _ _ e => e⟩
    rw [Bool.true_and]
    rfl
  · rw [decide_eq_false h1]
    exact ite_ff ⟨rfl, keeps_tok _ _⟩
end
end GX

set_option maxHeartbeats 1000000
namespace SX
open PySem PySem.W PySem.Spec PyProof.Rows L2
section
variable {X : Cx}
/-- len of a set of texts -/
def rLenSS (P : Program) (w : World) : List V → Hp → VK → Prop := fun vs H Q => ∃ (a : Addr) (zs : List Str), vs = [V.ref a] ∧ H a = some (SetSO P w a zs) ∧ Q (.int (zs.length : Int)) H
theorem cr_lenSS : CallR X (.builtin "len") (rLenSS X.prog X.w) := by
  intro pins s σ H vs us Q I r h
  obtain ⟨a, zs, rfl, ha, q⟩ := h
  obtain ⟨o, es, ep, t, ho, hex, hd, g, pm, nd, hb, hf, hr, hl⟩ := setSO_get I ha
  rw [Vals.ref1 r]
  have hn : es.size = zs.length := by rw [← Array.length_toList, ← List.length_map (f := txtOf), pm.length_eq]
  have ln := line63
  have fz := fits_of_scanBound hb
  exact call_len_set ho hex hd hf (by omega) ⟨.int (zs.length : Int), H, I.tok _, ⟨_, by rw [hn]⟩, q⟩
end
end SX

set_option maxHeartbeats 1000000
namespace My
open PySem PySem.Spec PyProof.Rows L2 GX GxR
abbrev s_scRises : Stmt := topS 10
abbrev n_scRises : List Str := ["names"]
theorem scRises : FnScope n_scRises ["names"] (defScope s_scRises) := ⟨rfl, rfl, rfl, by decide +kernel, rfl, by decide +kernel, by decide +kernel⟩
abbrev s_scKY : Stmt := topS 17
abbrev n_scKY : List Str := ["site", "how", "placing", "yards", "used", "house", "n"]
theorem scKY : FnScope n_scKY ["site", "how", "placing"] (defScope s_scKY) := ⟨rfl, rfl, rfl, by decide +kernel, rfl, by decide +kernel, by decide +kernel⟩
abbrev s_scSPl : Stmt := topS 8
abbrev n_scSPl : List Str := ["site", "many", "want", "how", "placing", "counts", "house", "n"]
theorem scSPl : FnScope n_scSPl ["site", "many", "want", "how", "placing"] (defScope s_scSPl) := ⟨rfl, rfl, rfl, by decide +kernel, rfl, by decide +kernel, by decide +kernel⟩
/-- each above the one ahead of it -/
def risesB (zs : List Str) : Bool := (List.zipWith (fun a b : Str => decide (a.cps.toList < b.cps.toList)) zs (zs.drop 1)).all _root_.id
def spRises (K : PySem.W.Frag) (T : Addr) : Sp := fun vs H Q _ => ∃ (p : Addr) (zs : List Str), vs = [.ref p] ∧ SqL K H p (zs.map V.str) ∧ TabG H T ∧ ∀ H', Fw [T] H H' → Q (.bl (risesB zs)) H'
theorem zip_lt : ∀ xs ys : List Str, (((xs.map V.str).zip (ys.map V.str)).map fun v => ltS v.1 v.2) = (List.zipWith (fun a b : Str => decide (a.cps.toList < b.cps.toList)) xs ys).map V.bl
  | [], _ => rfl
  | _ :: _, [] => rfl
  | x :: xs, y :: ys => by
    show ltS (.str x) (.str y) :: (((xs.map V.str).zip (ys.map V.str)).map fun v => ltS v.1 v.2) = .bl _ :: (List.zipWith _ xs ys).map V.bl
    rw [zip_lt xs ys]
    rfl
section
variable {P : Program} {w : World} {K : PySem.W.Frag} {mg : Str → Option Value} {base : Heap}
theorem ok_rises {f c T : Addr} {fd : FuncData} {k : Nat} (F : FunC K "rises" "rises" s_scRises f fd c) (X : Txt mg) (TB : TabB base mg c T) : FnOk P w K mg base CX0 (k + 1) f fd ["names"] (spRises K T) := by
  refine F.ok scRises (fun vs H Q E h => ?_) (fun A outer s H vs Q E hr h => ?_)
  · obtain ⟨p, zs, rfl, _⟩ := h
    rfl
  · obtain ⟨p, zs, rfl, hp, hT, q⟩ := h
    refine ⟨_, pss_one (ps_ret (pe_allG (by rfl) X.all (by decide +kernel) (pgn_zipL hr TB rfl (genS_of (by decide +kernel)) rfl (by decide) (by rfl) X.zip (pa_cons (pv 0) (pa_cons (pe_slice sl_list (pv 0) (po_some pe_int) po_none) pa_nil)) (elt_ltS rfl rfl rfl) (fun _ => rfl)))), ?_⟩
    have tH : Tabs [T] H := fun T' h => by rw [List.mem_singleton.mp h]; exact hT
    refine ⟨_, rfl, _, rfl, 1, rfl, p, _, rfl, hp, fun l nl => ?_⟩
    have ec : cutV (zs.map V.str) (some 1) none = (zs.drop 1).map V.str := by
      have := cut_drop (zs.map V.str) 1
      rw [List.map_drop]
      exact this
    rw [ec]
    have s1 : Same H (upd H l (.lst ((zs.drop 1).map V.str))) := same_upd nl
    refine ⟨p, l, zs.map V.str, (zs.drop 1).map V.str, rfl, s1.seq hp, SqL.of upd_same, TabG.same s1 hT, fun v hv => ?_, List.zipWith (fun a b : Str => decide (a.cps.toList < b.cps.toList)) zs (zs.drop 1), zip_lt _ _, fun H2 ht => ?_⟩
    · obtain ⟨h1, h2⟩ := List.of_mem_zip hv
      obtain ⟨a, _, e1⟩ := List.mem_map.mp h1
      obtain ⟨b, _, e2⟩ := List.mem_map.mp h2
      exact ⟨a, b, e1.symm, e2.symm⟩
    · exact q H2 ((Fw.same tH s1).trans (Fw.step (Fw.same tH s1).tabs (List.mem_singleton.mpr rfl) (kp_of_tabbed ht) ht.1))
end
/-- whether the yards of the houses are as how wants -/
def yardsB (how : Str) (us : List Str) : Bool := if how = "near" then decide ((SX.seenS us).length ≤ 1) else if how = "wide" then decide ((SX.seenS us).length = us.length) else true
def spKY : Sp := fun vs H Q _ => ∃ (s c : Addr) (n : Nat) (how : Str) (rs : List House) (ps : List (Str × Int)), vs = [.ref s, .str how, .ref c] ∧ SiteAt n H s rs ∧ PairsAt H c ps ∧ ps.length ≤ 58 ∧ (∀ q ∈ ps, q.1 ∈ rs.map (·.name)) ∧
  ∀ H', Same H H' → Q (.bl (yardsB how (ps.map fun q => ydOf rs q.1))) H'
section
variable {P : Program} {w : World} {K : PySem.W.Frag} {mg : Str → Option Value} {base : Heap}
theorem ok_ky {f fY : Addr} {fd fdY : FuncData} {k : Nat} {t1 t2 : Tok} (F : Fun K "keeps_yards" "keeps_yards" s_scKY f fd) (X : Txt mg) (mSet : mg "set" = none) (mNe : mg "NEAR" = some (.str "near" t1)) (mWi : mg "WIDE" = some (.str "wide" t2))
    (GY : FnOk P w K mg base CX0 k fY fdY ["site"] spYard) (mY : mg "yard_of_houses" = some (.ref fY)) (kY : PySem.W.keepIn K (.ref fY) = true) (bY : Binds K fdY ["site"] []) :
    FnOk P w K mg base CX0 (k + 1) f fd ["site", "how", "placing"] spKY := by
  refine F.ok scKY (fun vs H Q E h => ?_) (fun cdv A outer s H vs Q E hr h => ?_)
  · obtain ⟨s, c, n, how, rs, ps, rfl, _⟩ := h
    rfl
  · obtain ⟨s', c, n, how, rs, ps, rfl, hsite, hc, h58, hmem, q⟩ := h
    refine ⟨_, (pss_cons (ps_set (i := 3) scKY.nd rfl (.inr rfl) (pe_call GY hr (by rfl) mY kY bY .nil pass0 (pa_cons (pv 0) pa_nil)))
      (pss_cons (ps_setLc (i := 4) (own := [("house", 5), ("n", 6)]) (g := gTup K 2 (gCons (gName 5) (gCons (gName 6) gNil))) (tt := tYes) rfl scKY.nd rfl rfl (sw_true rfl rfl rfl (by decide +kernel)) (pi_tup (pv 2)) (blkOk_by (own := [("house", 5), ("n", 6)]) (N := n_scKY) (sc := defScope s_scKY) (by decide +kernel))
        (fun _ _ _ _ _ => pg_tup rfl (pgs_cons (pg_name (i := 5) scKY.nd rfl (.inl rfl)) (pgs_cons (pg_name (i := 6) scKY.nd rfl (.inl rfl)) pgs_nil))) (fun _ _ _ _ _ => pts_nil) (fun _ _ _ _ _ => pe_dget (hu_of hr) (pv 3) (pv 5) (fun _ _ => rfl)))
      (pss_cons (ps_if (pt_cmpR op_eq (pv 1) (pe_glob (v := .str "near") (by rfl) mNe ⟨_, rfl⟩) (nomark _))
        (pss_one (ps_ret (pe_cmpR op_le (pe_callB (r := SX.rLenSS P w) SX.cr_lenSS (by rfl) X.len PySem.boot_len (pa_cons (pe_callTy (r := SX.rSetLS P w K) (SX.cr_setLS rfl) (by rfl) mSet (by decide +kernel) (pa_cons (pv 4) pa_nil)) pa_nil)) pe_int (nomark _)))) pss_nil)
      (pss_cons (ps_if (pt_cmpR op_eq (pv 1) (pe_glob (v := .str "wide") (by rfl) mWi ⟨_, rfl⟩) (nomark _))
        (pss_one (ps_ret (pe_cmpR op_eq (pe_callB (r := SX.rLenSS P w) SX.cr_lenSS (by rfl) X.len PySem.boot_len (pa_cons (pe_callTy (r := SX.rSetLS P w K) (SX.cr_setLS rfl) (by rfl) mSet (by decide +kernel) (pa_cons (pv 4) pa_nil)) pa_nil)) (pe_callB call_len_seq (by rfl) X.len PySem.boot_len (pa_cons (pv 4) pa_nil)) (nomark _)))) pss_nil)
      (pss_one (ps_ret pe_bl)))))), ?_⟩
    obtain ⟨_, _, _, hnd, _, _⟩ := _root_.id hsite
    refine ⟨_, rfl, s', n, rs, rfl, hsite, fun d H1 s1 nd ed => ?_⟩
    obtain ⟨cs, hc1, hc2⟩ := hc.same s1
    have lcs : cs.length = ps.length := hc2.len
    refine ⟨_, rfl, c, rfl, ⟨_, .inl hc1⟩, fun D nD => ?_⟩
    refine lc_tup (K := K) (xs := cs) (fun i H' => Same H1 H' ∧ H' D = some (.lst (((ps.take i).map fun q => ydOf rs q.1).map V.str))) ⟨same_upd nD, upd_same⟩ (fun i H' _ p => ?_) (fun i x H' hx p => ?_) (fun H2 p => ?_)
    · rcases hc1 with e | ⟨o, e⟩
      · exact .inl (.inl (p.1 _ _ e))
      · exact .inl (.inr ⟨o, p.1 _ _ e⟩)
    · obtain ⟨p1, p2⟩ := p
      have hi : i < ps.length := by rw [← lcs]; exact (List.getElem?_eq_some_iff.mp hx).1
      have hpi : ps[i]? = some ps[i] := List.getElem?_eq_getElem hi
      obtain ⟨t, e1, e2⟩ := hc2.at i ps[i] hpi
      rw [hx] at e1
      cases e1
      have e2 := p1 _ _ e2
      refine ⟨t, [.str ps[i].1, .int ps[i].2], rfl, SqT.of e2, rfl, .str ps[i].1, [.int ps[i].2], rfl, .int ps[i].2, [], rfl, rfl, rfl, ?_⟩
      have gd := DGet.k (H := H') (a := d) (k := (Sum.inr ps[i].1 : Key)) (p1 _ _ ed)
      rw [val_yd hnd (hmem _ (List.getElem_mem hi))] at gd
      refine ⟨_, rfl, _, rfl, d, _, rfl, gd, _, p2, ?_, same_putA p1 nD, ?_⟩
      · rw [List.length_map, List.length_map, List.length_take]
        exact small1000 (by omega)
      · rw [upd_same, List.take_add_one, hpi, List.map_append, List.map_append]
        rfl
    obtain ⟨p1, p2⟩ := p
    rw [lcs, List.take_of_length_le (Nat.le_refl _)] at p2
    have s2 := s1.trans p1
    refine ⟨_, rfl, rfl, _, rfl, ite2 (fun z => ?_) (fun z => ?_)⟩
    · have z1 : how = "near" := V.str.inj (of_decide_eq_true z)
      refine ⟨_, rfl, D, _, rfl, SqL.of p2, by rw [List.length_map]; omega, fun st nst => ?_⟩
      refine ⟨st, _, rfl, upd_same, ?_⟩
      refine ⟨_, 1, rfl, rfl, ?_⟩
      have := q _ (s2.trans (same_upd (o := SX.SetSO P w st (SX.seenS (ps.map fun q => ydOf rs q.1))) nst))
      unfold yardsB at this
      rw [if_pos z1] at this
      rw [show decide ((SX.seenS (ps.map fun q => ydOf rs q.1)).length ≤ 1) = decide (((SX.seenS (ps.map fun q => ydOf rs q.1)).length : Int) ≤ 1) from by
        rw [Bool.eq_iff_iff, decide_eq_true_eq, decide_eq_true_eq]
        omega] at this
      exact this
    · have z1 : ¬ how = "near" := fun e => z (decide_eq_true (by rw [e]))
      refine ⟨_, rfl, rfl, _, rfl, ite2 (fun y => ?_) (fun y => ?_)⟩
      · have y1 : how = "wide" := V.str.inj (of_decide_eq_true y)
        refine ⟨_, rfl, D, _, rfl, SqL.of p2, by rw [List.length_map]; omega, fun st nst => ?_⟩
        refine ⟨st, _, rfl, upd_same, ?_⟩
        refine ⟨_, rfl, D, _, rfl, .inl (SqL.of (same_upd nst _ _ p2)), rfl, ?_⟩
        have := q _ (s2.trans (same_upd (o := SX.SetSO P w st (SX.seenS (ps.map fun q => ydOf rs q.1))) nst))
        unfold yardsB at this
        rw [if_neg z1, if_pos y1] at this
        rw [show decide ((SX.seenS (ps.map fun q => ydOf rs q.1)).length = (ps.map fun q => ydOf rs q.1).length) = decide (V.int ((SX.seenS (ps.map fun q => ydOf rs q.1)).length : Int) = V.int (((ps.map fun q => ydOf rs q.1).map V.str).length : Int)) from by
          rw [Bool.eq_iff_iff, decide_eq_true_eq, decide_eq_true_eq]
          simp only [List.length_map]
          exact ⟨(fun e => by rw [e]), (fun e => by have := V.int.inj e; omega)⟩] at this
        exact this
      · have y1 : ¬ how = "wide" := fun e => y (decide_eq_true (by rw [e]))
        have := q _ s2
        unfold yardsB at this
        rw [if_neg z1, if_neg y1] at this
        exact this
end
end My

set_option maxHeartbeats 1000000
namespace My
open PySem PySem.Spec PyProof.Rows L2 GX GxR
theorem Fw.sub {Ts Ts' : List Addr} {H H' : Hp} (t : Tabs Ts H) (i : ∀ x ∈ Ts', x ∈ Ts) (f : Fw Ts' H H') : Fw Ts H H' := by
  refine ⟨f.kp.mono i, fun T hT => ?_⟩
  by_cases z : T ∈ Ts'
  · exact f.tabs T z
  · exact TabG.kp f.kp z (t T hT)
/-- the count of a house, nought where there is none -/
def cntAt (kvs : List (Key × V)) (h : Str) : Int := match valV kvs (Sum.inr h : Key) with
  | some (.int m) => m
  | _ => 0
/-- whether some pairs are a placing -/
def isPl (how : Str) (many : Int) (rs : List House) (kvs : List (Key × V)) (qs : List (Str × Int)) : Bool :=
  risesB (qs.map (·.1)) && ((qs.map fun q => decide (1 ≤ q.2) && decide (q.2 ≤ cntAt kvs q.1)).all _root_.id && (decide (tasksOf qs = many) && yardsB how (qs.map fun q => ydOf rs q.1)))
def spSPl (Tc Ts Tt Tr : Addr) : Sp := fun vs H Q _ => ∃ (s pw c : Addr) (many : Int) (how : Str) (want : List Int) (rs : List House) (qs : List (Str × Int)), vs = [.ref s, .int many, .ref pw, .str how, .ref c] ∧ SiteAt want.length H s rs ∧ H pw = some (.tup (want.map V.int)) ∧ Amt want ∧ (∃ n ∈ want, n ≠ 0) ∧ want.length ≤ 8 ∧ 1 ≤ many ∧ PairsAt H c qs ∧ qs.length ≤ 58 ∧ (∀ q ∈ qs, -1000000000000 ≤ q.2 ∧ q.2 ≤ 1000000000000) ∧ Tabs [Tc, Ts, Tt, Tr] H ∧
  ∀ (rs' : List House) (H' : Hp), rs'.Perm rs → sortedS (rs'.map (·.name)) = true → Fw [Tc, Ts, Tt, Tr] H H' → Q (.bl (isPl how many rs (kvsC (mostOf how many) want rs') qs)) H'
theorem val_C_in {most : Int} {want : List Int} {rs : List House} {z : Str} {v : V} (h : valV (kvsC most want rs) (Sum.inr z : Key) = some v) : z ∈ rs.map (·.name) := by
  have := valV_in h
  rw [kvsC_keys] at this
  obtain ⟨y, hy, e⟩ := List.mem_map.mp this
  rw [← Sum.inr.inj e]
  exact hy
section
variable {P : Program} {w : World} {K : PySem.W.Frag} {mg : Str → Option Value} {base : Heap}
theorem ok_spl {f c0 Tc Ts Tt Tr fC fR fK fY : Addr} {fd fdC fdR fdK fdY : FuncData} {k : Nat} (F : FunC K "shows_placed" "shows_placed" s_scSPl f fd c0) (X : Txt mg) (mDict : mg "dict" = none) (TB : TabB base mg c0 Ts)
    (GC : FnOk P w K mg base CX0 k fC fdC ["site", "many", "want", "how"] (spCounts Tc)) (mC : mg "counts_of" = some (.ref fC)) (kC : PySem.W.keepIn K (.ref fC) = true) (bC : Binds K fdC ["site", "many", "want", "how"] [])
    (GR : FnOk P w K mg base CX0 k fR fdR ["names"] (spRises K Tr)) (mR : mg "rises" = some (.ref fR)) (kR : PySem.W.keepIn K (.ref fR) = true) (bR : Binds K fdR ["names"] [])
    (GK : FnOk P w K mg base CX0 k fK fdK ["pairs"] (spTasksA K Tt)) (mK : mg "tasks_in" = some (.ref fK)) (kK : PySem.W.keepIn K (.ref fK) = true) (bK : Binds K fdK ["pairs"] [])
    (GY : FnOk P w K mg base CX0 k fY fdY ["site", "how", "placing"] spKY) (mY : mg "keeps_yards" = some (.ref fY)) (kY : PySem.W.keepIn K (.ref fY) = true) (bY : Binds K fdY ["site", "how", "placing"] []) :
    FnOk P w K mg base CX0 (k + 1) f fd ["site", "many", "want", "how", "placing"] (spSPl Tc Ts Tt Tr) := by
  refine F.ok scSPl (fun vs H Q E h => ?_) (fun A outer s H vs Q E hr h => ?_)
  · obtain ⟨s, pw, c, many, how, want, rs, qs, rfl, _⟩ := h
    rfl
  · obtain ⟨s', pw, c, many, how, want, rs, qs, rfl, hsite, hW, hA, hnz, h8, hm, hc, h58, hb, hT, q⟩ := h
    refine ⟨_, (pss_cons (ps_set (i := 5) scSPl.nd rfl (.inr rfl) (pe_callTy (SX.cr_dictT rfl) (by rfl) mDict (by decide +kernel) (pa_cons (pe_call GC hr (by rfl) mC kC bC .nil pass0 (pa_cons (pv 0) (pa_cons (pv 1) (pa_cons (pv 2) (pa_cons (pv 3) pa_nil))))) pa_nil)))
      (pss_one (ps_ret (pe_and (pe_call GR hr (by rfl) mR kR bR .nil pass0 (pa_cons (pe_lc (own := [("house", 6), ("n", 7)]) (g := gTup K 2 (gCons (gName 6) (gCons (gName 7) gNil))) (tt := tYes) rfl scSPl.nd (pi_tup (pv 4)) (blkOk_by (own := [("house", 6), ("n", 7)]) (N := n_scSPl) (sc := defScope s_scSPl) (by decide +kernel))
          (fun _ _ _ _ _ => pg_tup rfl (pgs_cons (pg_name (i := 6) scSPl.nd rfl (.inl rfl)) (pgs_cons (pg_name (i := 7) scSPl.nd rfl (.inl rfl)) pgs_nil))) (fun _ _ _ _ _ => pts_nil) (fun _ _ _ _ _ => pv 6)) pa_nil))
        (pe_and (pe_allG (by rfl) X.all (by decide +kernel) (pgn_pairsTH hr TB rfl (genF_of (sc := defScope s_scSPl) (by decide +kernel)) rfl (by decide) (pv 4) (elt_btw (i := 5) rfl rfl rfl rfl rfl rfl (fun _ => ⟨by rfl, by rfl, by rfl, by rfl⟩)) (fun _ => rfl)))
        (pe_and (pe_cmpR op_eq (pe_call GK hr (by rfl) mK kK bK .nil pass0 (pa_cons (pv 4) pa_nil)) (pv 1) (nomark _))
        (pe_one (pe_call GY hr (by rfl) mY kY bY .nil pass0 (pa_cons (pv 0) (pa_cons (pv 3) (pa_cons (pv 4) pa_nil))))))))))), ?_⟩
    have inC : Tc ∈ [Tc, Ts, Tt, Tr] := by simp
    have inS : Ts ∈ [Tc, Ts, Tt, Tr] := by simp
    have inT : Tt ∈ [Tc, Ts, Tt, Tr] := by simp
    have inR : Tr ∈ [Tc, Ts, Tt, Tr] := by simp
    obtain ⟨us, hs1, hs2, hnd, h40, hall⟩ := _root_.id hsite
    refine ⟨_, rfl, _, rfl, _, rfl, _, rfl, s', pw, many, how, want, rs, rfl, hsite, hW, hA, hnz, h8, hm, hT Tc inC, fun p rs' H1 rp so tb1 k1 np hp => ?_⟩
    have f1 : Fw [Tc, Ts, Tt, Tr] H H1 := Fw.step hT inC k1 tb1
    obtain ⟨vs, fz, pv'⟩ := hp
    obtain ⟨ts, ets, pts⟩ := pv'.paired (K := K)
    have nd' : (rs'.map (·.name)).Nodup := (rp.map _).nodup_iff.mpr hnd
    refine ⟨p, ts, _, rfl, by rw [← ets]; exact fz, pts, fun d nd => ?_⟩
    rw [rows_kvs, merge_ndP _ [] (by rw [List.nil_append, kvsC_keys]; exact inr_nd nd'), List.nil_append]
    have s2 : Same H1 (upd H1 d (.dK (kvsC (mostOf how many) want rs'))) := same_upd nd
    have ed2 : upd H1 d (.dK (kvsC (mostOf how many) want rs')) d = some (.dK (kvsC (mostOf how many) want rs')) := upd_same
    have f2 := f1.then s2
    generalize upd H1 d (.dK (kvsC (mostOf how many) want rs')) = H2 at s2 ed2 f2 ⊢
    have Q' := fun H' f => q rs' H' rp so f
    obtain ⟨kvs, hkvs⟩ : ∃ kvs, kvsC (mostOf how many) want rs' = kvs := ⟨_, rfl⟩
    have kin : ∀ z v, valV kvs (Sum.inr z : Key) = some v → ∃ m, v = .int m := fun z v e => by
      rw [← hkvs] at e
      have hz := val_C_in e
      obtain ⟨r, hr', rfl⟩ := List.mem_map.mp hz
      rw [valV_C nd' hr'] at e
      exact ⟨_, (Option.some.inj e).symm⟩
    have knm : ∀ z, 1 ≤ cntAt kvs z → z ∈ rs.map (·.name) := fun z h => by
      unfold cntAt at h
      rw [← hkvs] at h
      cases e : valV (kvsC (mostOf how many) want rs') (Sum.inr z : Key) with
      | none => rw [e] at h; exact absurd h (by show ¬ (1 : Int) ≤ 0; decide)
      | some v =>
        have := val_C_in e
        obtain ⟨r, hr', e2⟩ := List.mem_map.mp this
        exact List.mem_map.mpr ⟨r, rp.mem_iff.mp hr', e2⟩
    rw [hkvs] at ed2 Q'
    have tabs2 := f2.tabs
    have hc2 : PairsAt H2 c qs := hc.fw hT f2
    obtain ⟨cs, hc3, hc4⟩ := _root_.id hc2
    have lcs : cs.length = qs.length := hc4.len
    have dne : ∀ {T : Addr}, T ∈ [Tc, Ts, Tt, Tr] → d ≠ T := fun {T} hT' z => by
      obtain ⟨xs, e, _⟩ := tabs2 T hT'
      rw [← z, ed2] at e
      cases e
    -- the names
    refine ⟨_, rfl, c, rfl, ⟨_, .inl hc3⟩, fun D nD => ?_⟩
    refine lc_tup (K := K) (xs := cs) (fun i H' => Same H2 H' ∧ H' D = some (.lst (((qs.take i).map (·.1)).map V.str))) ⟨same_upd nD, upd_same⟩ (fun i H' _ p => ?_) (fun i x H' hx p => ?_) (fun H3 p => ?_)
    · rcases hc3 with e | ⟨o, e⟩
      · exact .inl (.inl (p.1 _ _ e))
      · exact .inl (.inr ⟨o, p.1 _ _ e⟩)
    · obtain ⟨p1, p2⟩ := p
      have hi : i < qs.length := by rw [← lcs]; exact (List.getElem?_eq_some_iff.mp hx).1
      have hpi : qs[i]? = some qs[i] := List.getElem?_eq_getElem hi
      obtain ⟨t, e1, e2⟩ := hc4.at i qs[i] hpi
      rw [hx] at e1
      cases e1
      have e2 := p1 _ _ e2
      refine ⟨t, [.str qs[i].1, .int qs[i].2], rfl, SqT.of e2, rfl, .str qs[i].1, [.int qs[i].2], rfl, .int qs[i].2, [], rfl, rfl, rfl, ?_⟩
      refine ⟨_, rfl, _, p2, ?_, same_putA p1 nD, ?_⟩
      · rw [List.length_map, List.length_map, List.length_take]
        exact small1000 (by omega)
      · rw [upd_same, List.take_add_one, hpi, List.map_append, List.map_append]
        rfl
    obtain ⟨p1, p2⟩ := p
    rw [lcs, List.take_of_length_le (Nat.le_refl _)] at p2
    have f3 := f2.then p1
    refine ⟨D, _, rfl, SqL.of p2, f3.tabs Tr inR, fun H4 f4 => ?_⟩
    have g4 : Fw [Tc, Ts, Tt, Tr] H2 H4 := (Fw.same tabs2 p1).trans (f4.sub f3.tabs fun x hx => by rw [List.mem_singleton.mp hx]; exact inR)
    have ff4 := f2.trans g4
    refine ⟨_, rfl, ite2 (fun z1 => ?_) (fun z1 => ?_)⟩
    · -- the counts
      have ed4 : H4 d = some (.dK kvs) := g4.obj tabs2 ed2 fun ps z => by cases z
      obtain ⟨cs4, hc5, hc6⟩ := hc2.fw tabs2 g4
      obtain ⟨tz, t1, t2, t3⟩ := hc6.refs
      refine ⟨_, rfl, c, tz, qs.map (fun r => (V.str r.1, V.int r.2)), rfl, by rw [← t1]; exact .inl hc5, by rw [List.length_map]; exact t2, t3, ff4.tabs Ts inS, fun v hv => ?_, qs.map (fun q => decide (1 ≤ q.2) && decide (q.2 ≤ cntAt kvs q.1)), ?_, fun H5 ht => ?_⟩
      · obtain ⟨r, _, rfl⟩ := List.mem_map.mp hv
        exact ⟨r.1, r.2, d, kvs, rfl, rfl, rfl, ed4, fun v e => kin _ v e⟩
      · rw [List.map_map, List.map_map]
        refine List.map_congr_left fun r _ => ?_
        show V.bl (decide (1 ≤ r.2) && decide (r.2 ≤ getI H4 (.ref d) r.1)) = V.bl _
        have : getI H4 (.ref d) r.1 = cntAt kvs r.1 := by
          unfold getI cntAt
          simp only [ed4] <;> rcases valV kvs (Sum.inr r.1 : Key) with _ | v <;> first | rfl | (cases v <;> rfl)
        rw [this]
      · have g5 : Fw [Tc, Ts, Tt, Tr] H4 H5 := Fw.step ff4.tabs inS (kp_of_tabbed ht) ht.1
        have ff5 := ff4.trans g5
        have hc7 := hc.fw hT ff5
        refine ⟨_, rfl, ite2 (fun z2 => ?_) (fun z2 => ?_)⟩
        · obtain ⟨cs7, hc8, hc9⟩ := _root_.id hc7
          refine ⟨_, rfl, c, cs7, qs, rfl, .inr hc8, hc9, by omega, hb, ff5.tabs Tt inT, fun H6 tb6 k6 => ?_⟩
          have g6 : Fw [Tc, Ts, Tt, Tr] H5 H6 := Fw.step ff5.tabs inT k6 tb6
          have ff6 := ff5.trans g6
          refine ⟨_, rfl, rfl, _, rfl, ite2 (fun z3 => ?_) (fun z3 => ?_)⟩
          · have e3 : tasksOf qs = many := V.int.inj (of_decide_eq_true z3)
            have hmem : ∀ x ∈ qs, x.1 ∈ rs.map (·.name) := fun x hx => by
              have := List.all_eq_true.mp z2 _ (List.mem_map.mpr ⟨x, hx, rfl⟩)
              have h2 : decide (1 ≤ x.2) = true ∧ decide (x.2 ≤ cntAt kvs x.1) = true := by simpa using this
              exact knm x.1 (Int.le_trans (of_decide_eq_true h2.1) (of_decide_eq_true h2.2))
            have hsite6 : SiteAt want.length H6 s' rs := by
              refine ⟨us, ff6.lst hT hs1, hs2.imp fun v r hv => ?_, hnd, h40, hall⟩
              obtain ⟨x, l, e, g1, g2⟩ := hv
              exact ⟨x, l, e, ff6.kt hT _ _ g1, ff6.kt hT _ _ g2⟩
            refine ⟨_, rfl, _, rfl, _, rfl, s', c, want.length, how, rs, qs, rfl, hsite6, hc.fw hT ff6, h58, hmem, fun H7 s7 => ?_⟩
            have := Q' H7 (ff6.then s7)
            unfold isPl at this
            rw [z1, z2, decide_eq_true e3, Bool.true_and, Bool.true_and, Bool.true_and] at this
            exact this
          · have e3 : decide (tasksOf qs = many) = false := decide_eq_false fun e => z3 (decide_eq_true (by rw [e]))
            have := Q' H6 ff6
            unfold isPl at this
            rw [z1, z2, e3, Bool.true_and, Bool.true_and, Bool.false_and] at this
            exact this
        · have := Q' H5 ff5
          unfold isPl at this
          have z2' := Bool.eq_false_iff.mpr z2
          rw [z1, z2', Bool.false_and, Bool.and_false] at this
          exact this
    · have := Q' H4 ff4
      unfold isPl at this
      have z1' := Bool.eq_false_iff.mpr z1
      rw [z1', Bool.false_and] at this
      exact this
end
end My

set_option maxHeartbeats 1000000
/-! mathematics of placings shown -/
namespace My
open PySem PySem.Spec
abbrev ltT (a b : Str) : Prop := a.cps.toList < b.cps.toList
def rises0 (zs : List Str) : Bool := (List.zipWith (fun a b : Str => decide (a.cps.toList < b.cps.toList)) zs (zs.drop 1)).all _root_.id
theorem ltT_trans {a b c : Str} (h : ltT a b) (g : ltT b c) : ltT a c := List.lt_trans h g
theorem rises_iff : ∀ zs : List Str, rises0 zs = true ↔ zs.Pairwise ltT
  | [] => ⟨fun _ => .nil, fun _ => rfl⟩
  | [a] => ⟨fun _ => List.pairwise_singleton _ _, fun _ => rfl⟩
  | a :: b :: l => by
    have ih := rises_iff (b :: l)
    have e : rises0 (a :: b :: l) = (decide (ltT a b) && rises0 (b :: l)) := rfl
    rw [e, Bool.and_eq_true, ih, decide_eq_true_eq, List.pairwise_cons (a := a)]
    constructor
    · intro ⟨h1, h2⟩
      refine ⟨fun x hx => ?_, h2⟩
      rcases List.mem_cons.mp hx with rfl | hx
      · exact h1
      · exact ltT_trans h1 ((List.pairwise_cons.mp h2).1 x hx)
    · intro ⟨h1, h2⟩
      exact ⟨h1 b List.mem_cons_self, h2⟩
/-- the last of some names, or the empty one -/
def lastN (zs : List Str) : Str := zs.getLast?.getD (Str.ofString "")
theorem lastN_snoc (zs : List Str) (z : Str) : lastN (zs ++ [z]) = z := by
  unfold lastN
  rw [List.getLast?_append]
  rfl
theorem rises_snoc {zs : List Str} {z : Str} (h : zs.Pairwise ltT) (l : ltT (lastN zs) z) : (zs ++ [z]).Pairwise ltT := by
  refine List.pairwise_append.mpr ⟨h, List.pairwise_singleton _ _, fun x hx y hy => ?_⟩
  rw [List.mem_singleton.mp hy]
  rcases List.eq_nil_or_concat zs with rfl | ⟨us, u, e⟩
  · cases hx
  · rw [List.concat_eq_append] at e
    subst e
    rw [lastN_snoc] at l
    rcases List.mem_append.mp hx with hx | hx
    · exact ltT_trans ((List.pairwise_append.mp h).2.2 x hx u (List.mem_singleton.mpr rfl)) l
    · rw [List.mem_singleton.mp hx]
      exact l
theorem snoc_rises {zs : List Str} {z : Str} (nz : z ≠ Str.ofString "") (h : (zs ++ [z]).Pairwise ltT) : ltT (lastN zs) z := by
  rcases List.eq_nil_or_concat zs with rfl | ⟨us, u, e⟩
  · show ([] : List _) < z.cps.toList
    cases e : z.cps.toList with
    | nil => 
      refine absurd ?_ nz
      cases z with
      | mk a =>
        have : a = #[] := Array.toList_eq_nil_iff.mp e
        subst this
        rfl
    | cons a l => exact List.nil_lt_cons a l
  · rw [List.concat_eq_append] at e
    subst e
    rw [lastN_snoc]
    exact (List.pairwise_append.mp h).2.2 u (List.mem_append_right _ (List.mem_singleton.mpr rfl)) z (List.mem_singleton.mpr rfl)
def yards0 (how : Str) (us : List Str) : Bool := if how = Str.ofString "near" then decide ((SX.seenS us).length ≤ 1) else if how = Str.ofString "wide" then decide ((SX.seenS us).length = us.length) else true
def Yp (how : Str) (us : List Str) : Prop := (how = Str.ofString "near" → ∀ x ∈ us, ∀ y ∈ us, x = y) ∧ (how = Str.ofString "wide" → us.Nodup)
theorem seen_wide (us : List Str) : (SX.seenS us).length = us.length ↔ us.Nodup := by
  constructor
  · intro h
    obtain ⟨n, hn⟩ : ∃ n, us.length = n := ⟨_, rfl⟩
    induction n generalizing us with
    | zero => rw [List.eq_nil_of_length_eq_zero hn]; exact .nil
    | succ n ih =>
      rcases List.eq_nil_or_concat us with rfl | ⟨vs, u, e⟩
      · exact .nil
      · rw [List.concat_eq_append] at e
        subst e
        rw [SX.seen_snoc] at h
        have l1 := SX.seen_len vs
        rw [List.length_append, List.length_singleton] at h hn
        unfold SX.more at h
        split at h
        · omega
        · rename_i nu
          rw [List.length_cons] at h
          have hv := ih vs (by omega) (by omega)
          refine List.nodup_append.mpr ⟨hv, by simp, fun x hx y hy e => ?_⟩
          rw [List.mem_singleton.mp hy] at e
          refine nu ?_
          exact SX.seen_mem.mpr (e ▸ hx)
  · intro h
    have p : (SX.seenS us).Perm us := (List.perm_ext_iff_of_nodup (SX.seen_nd us) h).mpr fun x => SX.seen_mem
    exact p.length_eq
theorem seen_near (us : List Str) : (SX.seenS us).length ≤ 1 ↔ ∀ x ∈ us, ∀ y ∈ us, x = y := by
  constructor
  · intro h x hx y hy
    have h1 := SX.seen_mem.mpr hx
    have h2 := SX.seen_mem.mpr hy
    match e : SX.seenS us with
    | [] => rw [e] at h1; cases h1
    | [a] => rw [e] at h1 h2; rw [List.mem_singleton.mp h1, List.mem_singleton.mp h2]
    | a :: b :: l => rw [e] at h; simp at h
  · intro h
    have nd := SX.seen_nd us
    match e : SX.seenS us with
    | [] => simp
    | [a] => simp
    | a :: b :: l =>
      have ha : a ∈ us := SX.seen_mem.mp (by rw [e]; simp)
      have hb : b ∈ us := SX.seen_mem.mp (by rw [e]; simp)
      rw [e, h a ha b hb] at nd
      simp at nd
theorem yards_iff (how : Str) (us : List Str) : yards0 how us = true ↔ Yp how us := by
  unfold yards0 Yp
  by_cases h : how = Str.ofString "near"
  · rw [if_pos h, decide_eq_true_eq, seen_near]
    exact ⟨fun z => ⟨fun _ => z, fun e => absurd (h.symm.trans e) (by decide)⟩, fun z => z.1 h⟩
  · rw [if_neg h]
    by_cases g : how = Str.ofString "wide"
    · rw [if_pos g, decide_eq_true_eq, seen_wide]
      exact ⟨fun z => ⟨fun e => absurd e h, fun _ => z⟩, fun z => z.2 g⟩
    · rw [if_neg g]
      exact ⟨fun _ => ⟨fun e => absurd e h, fun e => absurd e g⟩, fun _ => rfl⟩
/-- the yards so far, and one more: as the law asks it -/
def yBad (how : Str) (us : List Str) (u : Str) : Prop := how = Str.ofString "wide" ∧ u ∈ us ∨ how = Str.ofString "near" ∧ us ≠ [] ∧ u ∉ us
theorem yp_snoc {how : Str} {us : List Str} {u : Str} (h : Yp how us) (g : ¬ yBad how us u) : Yp how (us ++ [u]) := by
  refine ⟨fun e x hx y hy => ?_, fun e => ?_⟩
  · have hall : ∀ z ∈ us ++ [u], z = u := fun z hz => by
      rcases List.mem_append.mp hz with hz | hz
      · have : u ∈ us := Decidable.byContradiction fun nu => g (.inr ⟨e, (fun n => by rw [n] at hz; cases hz), nu⟩)
        exact h.1 e z hz u this
      · exact List.mem_singleton.mp hz
    rw [hall x hx, hall y hy]
  · refine List.nodup_append.mpr ⟨h.2 e, by simp, fun x hx y hy z => ?_⟩
    rw [List.mem_singleton.mp hy] at z
    exact g (.inl ⟨e, z ▸ hx⟩)
theorem snoc_yp {how : Str} {us : List Str} {u : Str} (h : Yp how (us ++ [u])) : ¬ yBad how us u := by
  rintro (⟨e, hu⟩ | ⟨e, ne, hu⟩)
  · exact (List.nodup_append.mp (h.2 e)).2.2 u hu u (List.mem_singleton.mpr rfl) rfl
  · cases us with
    | nil => exact ne rfl
    | cons a l =>
      have := h.1 e a (by simp) u (by simp)
      exact hu (by rw [← this]; simp)
theorem yp_left {how : Str} {us vs : List Str} (h : Yp how (us ++ vs)) : Yp how us :=
  ⟨fun e x hx y hy => h.1 e x (List.mem_append_left _ hx) y (List.mem_append_left _ hy), fun e => (List.nodup_append.mp (h.2 e)).1⟩
end My

set_option maxHeartbeats 1000000
namespace My
open PySem PySem.Spec
theorem fill_bnd {B : Int} : ∀ (ps l : List (Str × Int)) (w : Int), (∀ q ∈ l, 0 ≤ q.2 ∧ q.2 ≤ B) → w ≤ B → ∀ q ∈ (ps.foldl fillStep (l, w)).1, 0 ≤ q.2 ∧ q.2 ≤ B
  | [], l, w, h, _ => h
  | p :: ps, l, w, h, hw => by
    show ∀ q ∈ (ps.foldl fillStep (fillStep (l, w) p)).1, _
    unfold fillStep
    split
    · rename_i z
      have z : 0 < min p.2 w := z
      refine fill_bnd ps _ _ (fun q hq => ?_) (show w - min p.2 w ≤ B by omega)
      rcases List.mem_append.mp hq with hq | hq
      · exact h q hq
      · rw [List.mem_singleton.mp hq]
        show 0 ≤ min p.2 w ∧ min p.2 w ≤ B
        omega
    · exact fill_bnd ps l w h hw
theorem place_bnd {many : Int} {ps made : List (Str × Int)} (h : placeOf many ps = some made) : (∀ q ∈ made, 0 ≤ q.2 ∧ q.2 ≤ many) ∧ made.length ≤ ps.length := by
  unfold placeOf at h
  split at h
  · cases h
  · rw [← Option.some.inj h]
    refine ⟨fill_bnd ps [] many (fun _ h => by cases h) (Int.le_refl _), ?_⟩
    have := fill_len ps ([], many)
    rw [List.length_nil, Nat.zero_add] at this
    exact this
theorem nd_len : ∀ (xs ys : List Str), xs.Nodup → (∀ x ∈ xs, x ∈ ys) → xs.length ≤ ys.length
  | [], ys, _, _ => Nat.zero_le _
  | x :: xs, ys, nd, h => by
    have hx := h x List.mem_cons_self
    obtain ⟨n1, n2⟩ := List.nodup_cons.mp nd
    have ih := nd_len xs (ys.erase x) n2 fun y hy => (List.mem_erase_of_ne (a := y) (b := x) (fun e => n1 (by rw [← e]; exact hy))).mpr (h y (List.mem_cons_of_mem _ hy))
    rw [List.length_erase_of_mem hx] at ih
    have := List.length_pos_of_mem hx
    rw [List.length_cons]
    omega
/-- what is placed: texts ahead, numbers to many, no more pairs than there are houses -/
theorem place_ok {how : Str} {many : Int} {yd : Str → Str} {ys : List Str} {R made : List (Str × Int)} (h : placeOf many (toFill how many yd ys R) = some made) (ny : ys.Nodup) (nR : (R.map (·.1)).Nodup) : (∀ q ∈ made, 0 ≤ q.2 ∧ q.2 ≤ many ∧ q.1 ∈ R.map (·.1)) ∧ made.length ≤ R.length := by
  obtain ⟨b1, b2⟩ := place_bnd h
  have sub := place_names h
  refine ⟨fun q hq => ⟨(b1 q hq).1, (b1 q hq).2, ?_⟩, ?_⟩
  · obtain ⟨x, hx, e⟩ := List.mem_map.mp (sub.subset (List.mem_map.mpr ⟨q, hq, rfl⟩))
    rw [← e]
    exact List.mem_map.mpr ⟨x, toFill_mem x hx, rfl⟩
  · have nd := toFill_nd (how := how) (many := many) (yd := yd) ny nR
    have l1 : ((toFill how many yd ys R).map (·.1)).length ≤ (R.map (·.1)).length := by
      refine nd_len _ _ nd fun x hx => ?_
      obtain ⟨y, hy, e⟩ := List.mem_map.mp hx
      rw [← e]
      exact List.mem_map.mpr ⟨y, toFill_mem y hy, rfl⟩
    rw [List.length_map, List.length_map] at l1
    omega
end My

set_option maxHeartbeats 1000000
/-! what is placed is a placing (for k22) -/
namespace My
open PySem PySem.Spec
theorem tasks_app (xs ys : List (Str × Int)) : tasksOf (xs ++ ys) = tasksOf xs + tasksOf ys := by
  unfold tasksOf
  rw [List.map_append, List.sum_append]
theorem tasks_perm {xs ys : List (Str × Int)} (h : xs.Perm ys) : tasksOf xs = tasksOf ys := by
  induction h with
  | nil => rfl
  | cons x _ ih =>
    unfold tasksOf at ih ⊢
    simp only [List.map_cons, List.sum_cons, ih]
  | swap x y l =>
    unfold tasksOf
    simp only [List.map_cons, List.sum_cons]
    omega
  | trans _ _ h1 h2 => rw [h1, h2]
theorem fill_are : ∀ (ps l : List (Str × Int)) (w : Int), ∀ q ∈ (ps.foldl fillStep (l, w)).1, q ∈ l ∨ ∃ m, (q.1, m) ∈ ps ∧ 0 < q.2 ∧ q.2 ≤ m
  | [], l, w, q, h => .inl h
  | p :: ps, l, w, q, h => by
    have h : q ∈ (ps.foldl fillStep (fillStep (l, w) p)).1 := h
    unfold fillStep at h
    split at h
    · rename_i z
      have z : 0 < min p.2 w := z
      rcases fill_are ps _ _ q h with h | ⟨m, h1, h2⟩
      · rcases List.mem_append.mp h with h | h
        · exact .inl h
        · refine .inr ⟨p.2, ?_, ?_⟩
          · rw [List.mem_singleton.mp h]
            exact List.mem_cons_self
          · rw [List.mem_singleton.mp h]
            show 0 < min p.2 w ∧ min p.2 w ≤ p.2
            omega
      · exact .inr ⟨m, List.mem_cons_of_mem _ h1, h2⟩
    · rcases fill_are ps l w q h with h | ⟨m, h1, h2⟩
      · exact .inl h
      · exact .inr ⟨m, List.mem_cons_of_mem _ h1, h2⟩
theorem fill_sum : ∀ (ps l : List (Str × Int)) (w : Int), tasksOf (ps.foldl fillStep (l, w)).1 + (ps.foldl fillStep (l, w)).2 = tasksOf l + w
  | [], l, w => rfl
  | p :: ps, l, w => by
    show tasksOf (ps.foldl fillStep (fillStep (l, w) p)).1 + (ps.foldl fillStep (fillStep (l, w) p)).2 = tasksOf l + w
    by_cases z : 0 < min p.2 w
    · have e : fillStep (l, w) p = (l ++ [(p.1, min p.2 w)], w - min p.2 w) := if_pos z
      rw [e, fill_sum ps, tasks_app]
      have : tasksOf [(p.1, min p.2 w)] = min p.2 w := by unfold tasksOf; simp
      rw [this]
      omega
    · have e : fillStep (l, w) p = (l, w) := if_neg z
      rw [e]
      exact fill_sum ps l w
theorem fill_nn : ∀ (ps l : List (Str × Int)) (w : Int), 0 ≤ w → 0 ≤ (ps.foldl fillStep (l, w)).2
  | [], l, w, h => h
  | p :: ps, l, w, h => by
    show 0 ≤ (ps.foldl fillStep (fillStep (l, w) p)).2
    unfold fillStep
    split
    · exact fill_nn ps _ _ (show 0 ≤ w - min p.2 w by omega)
    · exact fill_nn ps l w h
/-- what is placed: each from one task to its count, together as many as asked -/
theorem place_is {many : Int} {ps made : List (Str × Int)} (hm : 0 ≤ many) (h : placeOf many ps = some made) : tasksOf made = many ∧ ∀ q ∈ made, ∃ m, (q.1, m) ∈ ps ∧ 1 ≤ q.2 ∧ q.2 ≤ m := by
  unfold placeOf at h
  split at h
  · cases h
  · rename_i z
    rw [← Option.some.inj h]
    refine ⟨?_, fun q hq => ?_⟩
    · have h1 := fill_sum ps [] many
      have h2 := fill_nn ps [] many hm
      have h3 : tasksOf ([] : List (Str × Int)) = 0 := rfl
      unfold fillAll at z ⊢
      omega
    · rcases fill_are ps [] many q hq with h | ⟨m, h1, h2⟩
      · cases h
      · exact ⟨m, h1, by omega, h2.2⟩
end My

set_option maxHeartbeats 1000000
/-! what is placed keeps the yards and rises (for k22) -/
namespace My
open PySem PySem.Spec
theorem firsts_yards {yd : Str → Str} {ps : List (Str × Int)} : ∀ {ys : List Str}, ys.Nodup → ((firstsOf (groupsY yd ps ys)).map fun q => yd q.1).Nodup
  | [], _ => .nil
  | y :: ys, nd => by
    obtain ⟨n1, n2⟩ := List.nodup_cons.mp nd
    have ih := firsts_yards (yd := yd) (ps := ps) n2
    show (((posP (ofY yd ps y)).take 1 ++ firstsOf (groupsY yd ps ys)).map fun q => yd q.1).Nodup
    rw [List.map_append, List.nodup_append]
    refine ⟨?_, ih, fun a ha b hb z => ?_⟩
    · cases posP (ofY yd ps y) with
      | nil => exact .nil
      | cons c r => exact List.nodup_cons.mpr ⟨by simp, .nil⟩
    · obtain ⟨x, hx, rfl⟩ := List.mem_map.mp ha
      obtain ⟨x', hx', rfl⟩ := List.mem_map.mp hb
      have h1 := of_decide_eq_true (List.mem_filter.mp (List.mem_filter.mp (List.mem_of_mem_take hx)).1).2
      have h2 := (firsts_mem hx').2
      rw [← z, h1] at h2
      exact n1 h2
theorem toFill_yards {how : Str} {many : Int} {yd : Str → Str} {ys : List Str} {ps : List (Str × Int)} (ny : ys.Nodup) : Yp how ((toFill how many yd ys ps).map fun q => yd q.1) := by
  refine ⟨fun e => ?_, fun e => ?_⟩
  · unfold toFill
    rw [if_pos e]
    rcases firstFor_mem (many := many) (groupsY yd ps ys) with z | z
    · rw [z]
      intro x hx
      cases hx
    · obtain ⟨y, _, e2⟩ := List.mem_map.mp z
      rw [← e2]
      have all : ∀ x ∈ (ofY yd ps y).map (fun q => yd q.1), x = y := fun x hx => by
        obtain ⟨q, hq, rfl⟩ := List.mem_map.mp hx
        exact of_decide_eq_true (List.mem_filter.mp hq).2
      intro a ha b hb
      rw [all a ha, all b hb]
  · unfold toFill
    rw [if_neg (fun z => absurd (e.symm.trans z) (by decide)), if_pos e]
    exact firsts_yards ny
theorem yp_sub {how : Str} {us vs : List Str} (s : us.Sublist vs) (h : Yp how vs) : Yp how us :=
  ⟨fun e x hx y hy => h.1 e x (s.subset hx) y (s.subset hy), fun e => (h.2 e).sublist s⟩
theorem yp_perm {how : Str} {us vs : List Str} (s : us.Perm vs) (h : Yp how vs) : Yp how us :=
  ⟨fun e x hx y hy => h.1 e x (s.mem_iff.mp hx) y (s.mem_iff.mp hy), fun e => s.nodup_iff.mpr (h.2 e)⟩
/-- the yards of what is placed -/
theorem place_yards {how : Str} {many : Int} {yd : Str → Str} {ys : List Str} {ps made : List (Str × Int)} (ny : ys.Nodup) (h : placeOf many (toFill how many yd ys ps) = some made) : Yp how (made.map fun q => yd q.1) := by
  have s := (place_names h).map yd
  rw [List.map_map, List.map_map] at s
  exact yp_sub s (toFill_yards ny)
end My

set_option maxHeartbeats 1000000
/-! how many could be placed by the counts -/
namespace My
open PySem PySem.W PySem.Spec PyProof.Rows L2 GX GxR
theorem place_none {many : Int} {ps : List (Str × Int)} (hm : 0 ≤ many) (h : ∀ q ∈ ps, 0 ≤ q.2) : placeOf many ps = none ↔ tasksOf ps < many := by
  rw [place_due hm h]
  have e : (dueFill many (posP ps)).2 = many - tasksOf ps := by
    unfold dueFill
    rw [due_left, tasks_pos _ h]
  by_cases z : (dueFill many (posP ps)).2 ≤ 0
  · rw [if_pos z]
    exact ⟨(fun h => by cases h), (fun h => by omega)⟩
  · rw [if_neg z]
    exact ⟨(fun _ => by omega), (fun _ => rfl)⟩
theorem near_none {many : Int} (hm : 0 < many) : ∀ {gs : List (List (Str × Int))}, (∀ g ∈ gs, ∀ q ∈ g, 0 ≤ q.2) → (placeOf many (firstFor many gs) = none ↔ ∀ g ∈ gs, tasksOf g < many)
  | [], _ => by
    rw [place_none (by omega) (fun q hq => by cases hq)]
    exact ⟨(fun _ g hg => by cases hg), (fun _ => hm)⟩
  | g :: gs, h => by
    show placeOf many (if many ≤ tasksOf g then g else firstFor many gs) = none ↔ _
    by_cases z : many ≤ tasksOf g
    · rw [if_pos z, place_none (by omega) (h g List.mem_cons_self)]
      exact ⟨(fun q => by omega), (fun q => q g List.mem_cons_self)⟩
    · rw [if_neg z, near_none hm fun x hx => h x (List.mem_cons_of_mem _ hx)]
      refine ⟨fun q x hx => ?_, fun q x hx => q x (List.mem_cons_of_mem _ hx)⟩
      rcases List.mem_cons.mp hx with e | e
      · rw [e]; omega
      · exact q x e
theorem tasks_nn : ∀ {ps : List (Str × Int)}, (∀ q ∈ ps, 0 ≤ q.2) → 0 ≤ tasksOf ps
  | [], _ => Int.le_refl _
  | q :: ps, h => by
    have h1 := tasks_nn fun x hx => h x (List.mem_cons_of_mem _ hx)
    have h0 := h q List.mem_cons_self
    unfold tasksOf at h1 ⊢
    rw [List.map_cons, List.sum_cons]
    omega
theorem tasks_some {ps : List (Str × Int)} (h : ∀ q ∈ ps, 0 ≤ q.2) : 0 < tasksOf ps ↔ posP ps ≠ [] := by
  rw [← tasks_pos ps h]
  cases e : posP ps with
  | nil => exact ⟨fun z => absurd z (by show ¬ (0 : Int) < 0; decide), fun z => absurd rfl z⟩
  | cons q r =>
    refine ⟨fun _ => List.cons_ne_nil _ _, fun _ => ?_⟩
    have hq : q ∈ posP ps := by rw [e]; exact List.mem_cons_self
    have h0 : 0 < q.2 := of_decide_eq_true (List.mem_filter.mp hq).2
    have hr : 0 ≤ tasksOf r := tasks_nn fun x hx => h x (List.mem_filter.mp (show x ∈ posP ps by rw [e]; exact List.mem_cons_of_mem _ hx)).1
    unfold tasksOf at hr ⊢
    rw [List.map_cons, List.sum_cons]
    omega
/-- how many tasks could be placed together by the counts -/
def MostBy (how : Str) (yd : Str → Str) (ys : List Str) (ps : List (Str × Int)) (m : Int) : Prop :=
  if how = "near" then (groupsY yd ps ys = [] ∧ m = 0) ∨ ((∃ g ∈ groupsY yd ps ys, m = tasksOf g) ∧ ∀ g ∈ groupsY yd ps ys, tasksOf g ≤ m)
  else if how = "wide" then m = (((groupsY yd ps ys).filter fun g => decide (0 < tasksOf g)).length : Nat)
  else m = tasksOf ps
theorem firsts_tasks : ∀ {gs : List (List (Str × Int))}, (∀ g ∈ gs, ∀ q ∈ g, 0 ≤ q.2 ∧ q.2 ≤ 1) → tasksOf (firstsOf gs) = ((gs.filter fun g => decide (0 < tasksOf g)).length : Nat)
  | [], _ => rfl
  | g :: gs, h => by
    have ih := firsts_tasks fun x hx => h x (List.mem_cons_of_mem _ hx)
    have hg := h g List.mem_cons_self
    have e : tasksOf (firstsOf (g :: gs)) = tasksOf ((posP g).take 1) + tasksOf (firstsOf gs) := by
      show tasksOf ((posP g).take 1 ++ firstsOf gs) = _
      unfold tasksOf
      rw [List.map_append, List.sum_append]
    rw [e, ih, List.filter_cons]
    by_cases z : 0 < tasksOf g
    · rw [decide_eq_true z, if_pos rfl]
      have ne := (tasks_some fun q hq => (hg q hq).1).mp z
      cases e2 : posP g with
      | nil => exact absurd e2 ne
      | cons q r =>
        have hq : q ∈ posP g := by rw [e2]; exact List.mem_cons_self
        obtain ⟨h1, h2⟩ := List.mem_filter.mp hq
        have h3 : 0 < q.2 := of_decide_eq_true h2
        have h4 := (hg q h1).2
        have e3 : tasksOf ((q :: r).take 1) = 1 := by
          show q.2 + 0 = 1
          omega
        rw [e3, List.length_cons]
        omega
    · rw [decide_eq_false z, if_neg Bool.false_ne_true]
      have em : posP g = [] := by
        cases e2 : posP g with
        | nil => rfl
        | cons q r => exact absurd ((tasks_some fun q hq => (hg q hq).1).mpr (by rw [e2]; exact List.cons_ne_nil _ _)) z
      rw [em]
      show 0 + _ = _
      omega
theorem mostBy_none {how : Str} {many m : Int} {yd : Str → Str} {ys : List Str} {ps : List (Str × Int)} (hm : 1 ≤ many) (hn : ∀ q ∈ ps, 0 ≤ q.2) (hw : how = "wide" → ∀ q ∈ ps, q.2 ≤ 1) (h : MostBy how yd ys ps m) : m < many ↔ placeOf many (toFill how many yd ys ps) = none := by
  have ng : ∀ g ∈ groupsY yd ps ys, ∀ q ∈ g, q ∈ ps := fun g hg q hq => by
    obtain ⟨y, _, rfl⟩ := List.mem_map.mp hg
    exact (List.mem_filter.mp hq).1
  unfold MostBy at h
  unfold toFill
  by_cases z : how = "near"
  · rw [if_pos z] at h ⊢
    rw [near_none (by omega) fun g hg q hq => hn q (ng g hg q hq)]
    rcases h with ⟨e, rfl⟩ | ⟨⟨g, hg, e⟩, hle⟩
    · rw [e]
      exact ⟨(fun _ g hg => by cases hg), (fun _ => by omega)⟩
    · exact ⟨(fun q x hx => by have := hle x hx; omega), (fun q => by rw [e]; exact q g hg)⟩
  · rw [if_neg z] at h ⊢
    by_cases z2 : how = "wide"
    · rw [if_pos z2] at h ⊢
      rw [place_none (by omega) fun q hq => hn q (firsts_mem hq).1, firsts_tasks fun g hg q hq => ⟨hn q (ng g hg q hq), hw z2 q (ng g hg q hq)⟩, h]
    · rw [if_neg z2] at h ⊢
      rw [place_none (by omega) hn, h]
end My

set_option maxHeartbeats 1000000
/-! where there is a placing, one is told (for k22) -/
namespace My
open PySem PySem.W PySem.Spec PyProof.Rows L2 GX GxR
theorem sorted_rises {zs : List Str} (h : sortedS zs = true) (nd : zs.Nodup) : zs.Pairwise ltT := by
  have := sortedP h
  refine (List.Pairwise.and this nd).imp fun {a b} z => ?_
  refine Decidable.byContradiction fun n => z.2 (strxP (List.le_antisymm z.1 ?_))
  exact List.not_lt.mp n
theorem tasks_erase {R : List (Str × Int)} {q : Str × Int} (h : q ∈ R) : tasksOf R = q.2 + tasksOf (R.erase q) := by
  rw [tasks_perm (List.perm_cons_erase h)]
  unfold tasksOf
  simp
/-- fewer pairs, none with more: no more tasks -/
theorem sub_tasks : ∀ (qs R : List (Str × Int)), (qs.map (·.1)).Nodup → (∀ r ∈ R, 0 ≤ r.2) → (∀ q ∈ qs, ∃ m, (q.1, m) ∈ R ∧ q.2 ≤ m) → tasksOf qs ≤ tasksOf R
  | [], R, _, h0, _ => tasks_nn h0
  | q :: qs, R, nd, h0, h => by
    obtain ⟨m, h1, h2⟩ := h q List.mem_cons_self
    have nd2 := List.nodup_cons.mp (by rw [List.map_cons] at nd; exact nd)
    have ih := sub_tasks qs (R.erase (q.1, m)) nd2.2 (fun r hr => h0 r (List.mem_of_mem_erase hr)) fun x hx => by
      obtain ⟨m', g1, g2⟩ := h x (List.mem_cons_of_mem _ hx)
      refine ⟨m', (List.mem_erase_of_ne fun e => ?_).mpr g1, g2⟩
      have : x.1 = q.1 := (Prod.mk.inj e).1
      exact nd2.1 (by rw [← this]; exact List.mem_map.mpr ⟨x, hx, rfl⟩)
    have e := tasks_erase h1
    have e2 : tasksOf (q :: qs) = q.2 + tasksOf qs := by unfold tasksOf; simp
    have e3 : ((q.1, m) : Str × Int).2 = m := rfl
    omega
end My

set_option maxHeartbeats 1000000
namespace My
open PySem PySem.W PySem.Spec PyProof.Rows L2 GX GxR
theorem tasks_ones : ∀ {qs : List (Str × Int)}, (∀ q ∈ qs, q.2 = 1) → tasksOf qs = (qs.length : Int)
  | [], _ => rfl
  | q :: qs, h => by
    have ih := tasks_ones fun x hx => h x (List.mem_cons_of_mem _ hx)
    have e2 : tasksOf (q :: qs) = q.2 + tasksOf qs := by unfold tasksOf; simp
    rw [e2, ih, h q List.mem_cons_self, List.length_cons]
    omega
theorem tasks_one_in {g : List (Str × Int)} (h0 : ∀ r ∈ g, 0 ≤ r.2) {r : Str × Int} (h : r ∈ g) : r.2 ≤ tasksOf g := by
  have := tasks_erase h
  have h2 := tasks_nn (ps := g.erase r) fun x hx => h0 x (List.mem_of_mem_erase hx)
  omega
/-- where there is a placing, there is one that is told -/
theorem place_ex {how : Str} {many : Int} {yd : Str → Str} {ys : List Str} {R qs : List (Str × Int)} (hm : 1 ≤ many) (h0 : ∀ r ∈ R, 0 ≤ r.2) (hw : how = Str.ofString "wide" → ∀ r ∈ R, r.2 ≤ 1) (hys : ∀ r ∈ R, yd r.1 ∈ ys)
    (nd : (qs.map (·.1)).Nodup) (hq : ∀ q ∈ qs, ∃ m, (q.1, m) ∈ R ∧ 1 ≤ q.2 ∧ q.2 ≤ m) (hy : Yp how (qs.map fun q => yd q.1)) (ht : tasksOf qs = many) : placeOf many (toFill how many yd ys R) ≠ none := by
  intro hn
  have gnn : ∀ g ∈ groupsY yd R ys, ∀ q ∈ g, 0 ≤ q.2 := fun g hg q hq' => by
    obtain ⟨y, _, rfl⟩ := List.mem_map.mp hg
    exact h0 q (List.mem_filter.mp hq').1
  unfold toFill at hn
  by_cases c1 : how = Str.ofString "near"
  · rw [if_pos c1, near_none (by omega) gnn] at hn
    cases qs with
    | nil =>
      have : tasksOf ([] : List (Str × Int)) = 0 := rfl
      omega
    | cons q0 qs0 =>
      obtain ⟨m0, g1, _⟩ := hq q0 List.mem_cons_self
      have lt := hn (ofY yd R (yd q0.1)) (List.mem_map.mpr ⟨_, hys _ g1, rfl⟩)
      have le := sub_tasks (q0 :: qs0) (ofY yd R (yd q0.1)) nd (fun r hr => h0 r (List.mem_filter.mp hr).1) fun q hq' => by
        obtain ⟨m, a1, a2, a3⟩ := hq q hq'
        refine ⟨m, List.mem_filter.mpr ⟨a1, decide_eq_true ?_⟩, a3⟩
        exact hy.1 c1 _ (List.mem_map.mpr ⟨q, hq', rfl⟩) _ (List.mem_map.mpr ⟨q0, List.mem_cons_self, rfl⟩)
      omega
  · rw [if_neg c1] at hn
    by_cases c2 : how = Str.ofString "wide"
    · rw [if_pos c2, place_none (by omega) fun q hq' => h0 q (firsts_mem hq').1] at hn
      have ones : ∀ q ∈ qs, q.2 = 1 := fun q hq' => by
        obtain ⟨m, a1, a2, a3⟩ := hq q hq'
        have := hw c2 _ a1
        have e : ((q.1, m) : Str × Int).2 = m := rfl
        omega
      rw [firsts_tasks fun g hg q hq' => ⟨gnn g hg q hq', by
        obtain ⟨y, _, rfl⟩ := List.mem_map.mp hg
        exact hw c2 q (List.mem_filter.mp hq').1⟩] at hn
      have e1 := tasks_ones ones
      have e2 : ((groupsY yd R ys).filter fun g => decide (0 < tasksOf g)).length = (ys.filter fun y => decide (0 < tasksOf (ofY yd R y))).length := by
        unfold groupsY
        rw [List.filter_map, List.length_map]
        rfl
      have le := nd_len (qs.map fun q => yd q.1) (ys.filter fun y => decide (0 < tasksOf (ofY yd R y))) (hy.2 c2) fun y hy' => by
        obtain ⟨q, hq', rfl⟩ := List.mem_map.mp hy'
        obtain ⟨m, a1, a2, a3⟩ := hq q hq'
        refine List.mem_filter.mpr ⟨hys (q.1, m) a1, decide_eq_true ?_⟩
        have := tasks_one_in (g := ofY yd R (yd q.1)) (fun r hr => h0 r (List.mem_filter.mp hr).1) (List.mem_filter.mpr ⟨a1, decide_eq_true rfl⟩)
        have e : ((q.1, m) : Str × Int).2 = m := rfl
        omega
      rw [List.length_map] at le
      rw [e2] at hn
      omega
    · rw [if_neg c2, place_none (by omega) h0] at hn
      have le := sub_tasks qs R nd h0 fun q hq' => by
        obtain ⟨m, a1, a2, a3⟩ := hq q hq'
        exact ⟨m, a1, a3⟩
      omega
end My

set_option maxHeartbeats 1000000
/-! all ways to give each house none to its count of tasks (for k22) -/
namespace My
open PySem PySem.Spec
/-- a placing of some counts -/
def IsPl (how : Str) (many : Int) (yd : Str → Str) (R qs : List (Str × Int)) : Prop :=
  (qs.map (·.1)).Pairwise ltT ∧ (∀ q ∈ qs, ∃ m, (q.1, m) ∈ R ∧ 1 ≤ q.2 ∧ q.2 ≤ m) ∧ tasksOf qs = many ∧ Yp how (qs.map fun q => yd q.1)
/-- one way longer by a house with one to so many tasks -/
def longer (w : List (Str × Int)) (q : Str × Int) : List (List (Str × Int)) := (List.range q.2.toNat).map fun (i : Nat) => w ++ [(q.1, 1 + (i : Int))]
def wayStep (ws : List (List (Str × Int))) (q : Str × Int) : List (List (Str × Int)) := ws ++ ws.flatMap fun w => longer w q
def waysAll (R : List (Str × Int)) : List (List (Str × Int)) := R.foldl wayStep [[]]
theorem ways_snoc (R : List (Str × Int)) (q : Str × Int) : waysAll (R ++ [q]) = wayStep (waysAll R) q := by
  unfold waysAll
  rw [List.foldl_append]
  rfl
theorem snoc_cases {α : Type} (l : List α) : l = [] ∨ ∃ i z, l = i ++ [z] := by
  cases e : l.getLast? with
  | none => exact .inl (List.getLast?_eq_none_iff.mp e)
  | some z => exact .inr ⟨l.dropLast, z, (List.getLast?_eq_some_iff.mp e).elim fun ys h => by rw [h, List.dropLast_concat]⟩
theorem ltT_irr {a : Str} : ¬ ltT a a := List.lt_irrefl _
theorem mem_ways (R : List (Str × Int)) : ∀ i, i ≤ R.length → (R.map (·.1)).Pairwise ltT → ∀ w, w ∈ waysAll (R.take i) ↔ (w.map (·.1)).Pairwise ltT ∧ ∀ q ∈ w, ∃ m, (q.1, m) ∈ R.take i ∧ 1 ≤ q.2 ∧ q.2 ≤ m := by
  intro i
  induction i with
  | zero =>
    intro _ _ w
    constructor
    · intro h
      have : w = [] := by
        have h' : w ∈ [([] : List (Str × Int))] := h
        exact List.mem_singleton.mp h'
      subst this
      exact ⟨List.Pairwise.nil, fun q hq => nomatch hq⟩
    · rintro ⟨_, h⟩
      have : w = [] := by
        cases w with
        | nil => rfl
        | cons a w =>
          obtain ⟨m, hm, _⟩ := h a List.mem_cons_self
          exact nomatch hm
      subst this
      exact List.mem_singleton.mpr rfl
  | succ i ih =>
    intro hi hp w
    have hi' : i < R.length := by omega
    have et : R.take (i + 1) = R.take i ++ [R[i]] := by
      rw [List.take_add_one, List.getElem?_eq_getElem hi']
      rfl
    have ih := ih (by omega) hp
    have below : ∀ q ∈ R.take i, ltT q.1 R[i].1 := fun q hq => by
      have h1 : ((R.take (i + 1)).map (·.1)).Pairwise ltT := by
        rw [List.map_take]
        exact hp.sublist (List.take_sublist _ _)
      rw [et, List.map_append, List.pairwise_append] at h1
      exact h1.2.2 _ (List.mem_map.mpr ⟨q, hq, rfl⟩) _ (List.mem_singleton.mpr rfl)
    rw [et, ways_snoc]
    generalize R[i] = r at below ⊢
    generalize R.take i = T at ih below ⊢
    unfold wayStep
    rw [List.mem_append, List.mem_flatMap]
    constructor
    · rintro (h | ⟨w', h, g⟩)
      · obtain ⟨h1, h2⟩ := (ih w).mp h
        exact ⟨h1, fun q hq => by
          obtain ⟨m, a, b⟩ := h2 q hq
          exact ⟨m, List.mem_append_left _ a, b⟩⟩
      · obtain ⟨h1, h2⟩ := (ih w').mp h
        obtain ⟨n, hn, rfl⟩ := List.mem_map.mp g
        have hn := List.mem_range.mp hn
        refine ⟨?_, fun q hq => ?_⟩
        · rw [List.map_append, List.pairwise_append]
          refine ⟨h1, List.pairwise_singleton _ _, fun a ha b hb => ?_⟩
          rw [List.mem_singleton.mp hb]
          obtain ⟨q, hq, rfl⟩ := List.mem_map.mp ha
          obtain ⟨m, a, _⟩ := h2 q hq
          exact below (q.1, m) a
        · rcases List.mem_append.mp hq with hq | hq
          · obtain ⟨m, a, b⟩ := h2 q hq
            exact ⟨m, List.mem_append_left _ a, b⟩
          · rw [List.mem_singleton.mp hq]
            exact ⟨r.2, List.mem_append_right _ (List.mem_singleton.mpr rfl), by show (1 : Int) ≤ 1 + n; omega, by show 1 + (n : Int) ≤ r.2; omega⟩
    · rintro ⟨h1, h2⟩
      rcases snoc_cases w with rfl | ⟨w', z, rfl⟩
      · exact .inl ((ih []).mpr ⟨List.Pairwise.nil, fun q hq => nomatch hq⟩)
      rw [List.map_append, List.pairwise_append] at h1
      obtain ⟨h1, _, h3⟩ := h1
      have h3 : ∀ q ∈ w', ltT q.1 z.1 := fun q hq => h3 _ (List.mem_map.mpr ⟨q, hq, rfl⟩) _ (List.mem_singleton.mpr rfl)
      obtain ⟨m, a, b, c⟩ := h2 z (List.mem_append_right _ (List.mem_singleton.mpr rfl))
      rcases List.mem_append.mp a with a | a
      · refine .inl ((ih _).mpr ⟨?_, fun q hq => ?_⟩)
        · rw [List.map_append, List.pairwise_append]
          exact ⟨h1, List.pairwise_singleton _ _, fun x hx y hy => by
            rw [List.mem_singleton.mp hy]
            obtain ⟨q, hq, rfl⟩ := List.mem_map.mp hx
            exact h3 q hq⟩
        · obtain ⟨m', a', b', c'⟩ := h2 q hq
          rcases List.mem_append.mp a' with a' | a'
          · exact ⟨m', a', b', c'⟩
          · exfalso
            have e1 : q.1 = r.1 := by rw [← (List.mem_singleton.mp a' : (q.1, m') = r)]
            have l1 : ltT z.1 r.1 := below (z.1, m) a
            rcases List.mem_append.mp hq with hq | hq
            · have l2 := h3 q hq
              rw [e1] at l2
              exact ltT_irr (ltT_trans l2 l1)
            · rw [List.mem_singleton.mp hq] at e1
              rw [e1] at l1
              exact ltT_irr l1
      · have e1 : (z.1, m) = r := List.mem_singleton.mp a
        refine .inr ⟨w', (ih w').mpr ⟨h1, fun q hq => ?_⟩, List.mem_map.mpr ⟨(z.2 - 1).toNat, List.mem_range.mpr ?_, ?_⟩⟩
        · obtain ⟨m', a', b', c'⟩ := h2 q (List.mem_append_left _ hq)
          rcases List.mem_append.mp a' with a' | a'
          · exact ⟨m', a', b', c'⟩
          · exfalso
            have e2 : q.1 = r.1 := by rw [← (List.mem_singleton.mp a' : (q.1, m') = r)]
            have e3 : z.1 = r.1 := by rw [← e1]
            have l1 := h3 q hq
            rw [e2, e3] at l1
            exact ltT_irr l1
        · rw [← e1]
          show (z.2 - 1).toNat < m.toNat
          omega
        · rw [← e1]
          have e4 : (1 : Int) + ((z.2 - 1).toNat : Int) = z.2 := by omega
          show w' ++ [(z.1, 1 + ((z.2 - 1).toNat : Int))] = w' ++ [z]
          rw [e4]
theorem longer_len (w : List (Str × Int)) (q : Str × Int) : (longer w q).length = q.2.toNat := by
  unfold longer
  rw [List.length_map, List.length_range]
theorem flat_len {q : Str × Int} (h : q.2 ≤ 4) : ∀ ws : List (List (Str × Int)), (ws.flatMap fun w => longer w q).length ≤ 4 * ws.length
  | [] => Nat.le_refl _
  | w :: ws => by
    have := flat_len h ws
    rw [List.flatMap_cons, List.length_append, longer_len, List.length_cons]
    omega
theorem ways_len (R : List (Str × Int)) (h : ∀ q ∈ R, q.2 ≤ 4) : ∀ i, i ≤ R.length → (waysAll (R.take i)).length ≤ 5 ^ i := by
  intro i
  induction i with
  | zero => intro _; exact Nat.le_refl _
  | succ i ih =>
    intro hi
    have hi' : i < R.length := by omega
    have et : R.take (i + 1) = R.take i ++ [R[i]] := by
      rw [List.take_add_one, List.getElem?_eq_getElem hi']
      rfl
    have ih := ih (by omega)
    rw [et, ways_snoc]
    unfold wayStep
    rw [List.length_append]
    have := flat_len (h _ (List.getElem_mem hi')) (waysAll (R.take i))
    rw [Nat.pow_succ]
    omega
theorem way_len (R : List (Str × Int)) : ∀ i, i ≤ R.length → ∀ w ∈ waysAll (R.take i), w.length ≤ i := by
  intro i
  induction i with
  | zero =>
    intro _ w hw
    have h' : w ∈ [([] : List (Str × Int))] := hw
    rw [List.mem_singleton.mp h']
    exact Nat.le_refl _
  | succ i ih =>
    intro hi w hw
    have hi' : i < R.length := by omega
    have et : R.take (i + 1) = R.take i ++ [R[i]] := by
      rw [List.take_add_one, List.getElem?_eq_getElem hi']
      rfl
    rw [et, ways_snoc] at hw
    rcases List.mem_append.mp hw with hw | hw
    · have := ih (by omega) w hw
      omega
    · obtain ⟨w', h1, h2⟩ := List.mem_flatMap.mp hw
      obtain ⟨n, _, rfl⟩ := List.mem_map.mp h2
      have := ih (by omega) w' h1
      rw [List.length_append, List.length_singleton]
      omega
/-- what the law asks of a way -/
def fineW (how : Str) (us : List Str) : Bool := if how = Str.ofString "wide" then decide ((SX.seenS us).length = us.length) else if how = Str.ofString "near" then decide ((SX.seenS us).length = 1) else true
def waysOf (how : Str) (many : Int) (yd : Str → Str) (R : List (Str × Int)) : List (List (Str × Int)) := (waysAll R).filter fun w => fineW how (w.map fun q => yd q.1) && decide (tasksOf w = many)
theorem seen_some {us : List Str} (h : us ≠ []) : 1 ≤ (SX.seenS us).length := by
  cases us with
  | nil => exact absurd rfl h
  | cons a us =>
    have : a ∈ SX.seenS (a :: us) := SX.seen_mem.mpr List.mem_cons_self
    exact List.length_pos_of_mem this
theorem ways_pl {how : Str} {many : Int} {yd : Str → Str} {R : List (Str × Int)} (hm : 1 ≤ many) (hp : (R.map (·.1)).Pairwise ltT) (w : List (Str × Int)) : w ∈ waysOf how many yd R ↔ IsPl how many yd R w := by
  have hw := mem_ways R R.length (Nat.le_refl _) hp w
  rw [List.take_length] at hw
  unfold waysOf IsPl
  rw [List.mem_filter, hw, Bool.and_eq_true, decide_eq_true_eq]
  have key : tasksOf w = many → (fineW how (w.map fun q => yd q.1) = true ↔ Yp how (w.map fun q => yd q.1)) := fun ht => by
    have ne : (w.map fun q => yd q.1) ≠ [] := fun e => by
      have : w = [] := List.map_eq_nil_iff.mp e
      rw [this] at ht
      have : tasksOf ([] : List (Str × Int)) = 0 := rfl
      omega
    have := seen_some ne
    generalize (w.map fun q => yd q.1) = us at this ⊢
    rw [← yards_iff]
    unfold fineW yards0
    by_cases c1 : how = Str.ofString "near"
    · have c2 : ¬ how = Str.ofString "wide" := fun z => by rw [c1] at z; revert z; decide
      rw [if_neg c2, if_pos c1, if_pos c1, decide_eq_true_eq, decide_eq_true_eq]
      omega
    · rw [if_neg c1, if_neg c1]
  constructor
  · rintro ⟨⟨a, b⟩, c, d⟩
    exact ⟨a, b, d, (key d).mp c⟩
  · rintro ⟨a, b, d, c⟩
    exact ⟨⟨a, b⟩, (key d).mpr c, d⟩
end My

set_option maxHeartbeats 1000000
/-! what is told is a placing, and where none is told there is none (for k22, k21) -/
namespace My
open PySem PySem.W PySem.Spec PyProof.Rows L2 GX GxR
theorem told_pl {how : Str} {many : Int} {yd : Str → Str} {ys : List Str} {R made out : List (Str × Int)} (hm : 0 ≤ many) (ny : ys.Nodup) (nR : (R.map (·.1)).Nodup) (h : placeOf many (toFill how many yd ys R) = some made) (p : out.Perm made) (so : sortedS (out.map (·.1)) = true) : IsPl how many yd R out := by
  obtain ⟨h1, h2⟩ := place_is hm h
  refine ⟨sorted_rises so ?_, fun q hq => ?_, ?_, ?_⟩
  · refine (p.map (·.1)).nodup_iff.mpr ?_
    exact (place_names h).nodup (toFill_nd ny nR)
  · obtain ⟨m, a, b⟩ := h2 q (p.mem_iff.mp hq)
    exact ⟨m, toFill_mem _ a, b⟩
  · rw [tasks_perm p]
    exact h1
  · exact yp_perm (p.map _) (place_yards ny h)
theorem rise_nd {zs : List Str} (h : zs.Pairwise ltT) : zs.Nodup := h.imp fun {a b} l e => by
  rw [e] at l
  exact ltT_irr l
theorem none_pl {how : Str} {many : Int} {yd : Str → Str} {ys : List Str} {R : List (Str × Int)} (hm : 1 ≤ many) (h0 : ∀ r ∈ R, 0 ≤ r.2) (hw : how = Str.ofString "wide" → ∀ r ∈ R, r.2 ≤ 1) (hys : ∀ r ∈ R, yd r.1 ∈ ys) (h : placeOf many (toFill how many yd ys R) = none) (w : List (Str × Int)) : ¬ IsPl how many yd R w := fun g =>
  place_ex hm h0 hw hys (rise_nd g.1) g.2.1 g.2.2.2 g.2.2.1 h
end My

set_option maxHeartbeats 1000000
namespace My
open PySem PySem.W PySem.Spec PyProof.Rows L2 GX GxR
theorem cnt_in {most : Int} {want : List Int} {rs : List House} (nd : (rs.map (·.name)).Nodup) {z : Str} : (∀ m, (z, m) ∈ rowsC most want rs → cntAt (kvsC most want rs) z = m) ∧ (1 ≤ cntAt (kvsC most want rs) z → (z, cntAt (kvsC most want rs) z) ∈ rowsC most want rs) := by
  constructor
  · intro m hm
    obtain ⟨r, hr, e⟩ := List.mem_map.mp hm
    have e1 : r.name = z := congrArg Prod.fst e
    have e2 : cnt most want r.left = m := congrArg Prod.snd e
    unfold cntAt
    rw [← e1, valV_C nd hr]
    exact e2
  · intro h
    unfold cntAt at h ⊢
    cases e : valV (kvsC most want rs) (Sum.inr z : Key) with
    | none => rw [e] at h; exact absurd h (by show ¬ (1 : Int) ≤ 0; decide)
    | some v =>
      have := val_C_in e
      obtain ⟨r, hr, e2⟩ := List.mem_map.mp this
      rw [← e2, valV_C nd hr] at e
      cases e
      rw [← e2]
      exact List.mem_map.mpr ⟨r, hr, rfl⟩
theorem cntsB_iff (kvs : List (Key × V)) (qs : List (Str × Int)) : (qs.map fun q => decide (1 ≤ q.2) && decide (q.2 ≤ cntAt kvs q.1)).all _root_.id = true ↔ ∀ q ∈ qs, 1 ≤ q.2 ∧ q.2 ≤ cntAt kvs q.1 := by
  rw [List.all_eq_true]
  constructor
  · intro h q hq
    have := h _ (List.mem_map.mpr ⟨q, hq, rfl⟩)
    simpa using this
  · intro h x hx
    obtain ⟨q, hq, rfl⟩ := List.mem_map.mp hx
    simpa using h q hq
/-- what shows_placed reckons is the notion of a placing -/
theorem pl_iff {how : Str} {many most : Int} {want : List Int} {rs rs' : List House} (nd : (rs'.map (·.name)).Nodup) (qs : List (Str × Int)) : isPl how many rs (kvsC most want rs') qs = true ↔ IsPl how many (ydOf rs) (rowsC most want rs') qs := by
  unfold isPl IsPl
  rw [Bool.and_eq_true, Bool.and_eq_true, Bool.and_eq_true, decide_eq_true_eq, cntsB_iff]
  have e1 : risesB (qs.map (·.1)) = true ↔ (qs.map (·.1)).Pairwise ltT := rises_iff _
  have e3 : yardsB how (qs.map fun q => ydOf rs q.1) = true ↔ Yp how (qs.map fun q => ydOf rs q.1) := yards_iff _ _
  rw [e1, e3]
  constructor
  · rintro ⟨a, b, c, d⟩
    refine ⟨a, fun q hq => ?_, c, d⟩
    obtain ⟨b1, b2⟩ := b q hq
    exact ⟨_, (cnt_in nd).2 (by omega), b1, b2⟩
  · rintro ⟨a, b, c, d⟩
    refine ⟨a, fun q hq => ?_, c, d⟩
    obtain ⟨m, b1, b2, b3⟩ := b q hq
    rw [(cnt_in nd).1 m b1]
    exact ⟨b2, b3⟩
end My

set_option maxHeartbeats 1000000
/-! what more room and a scale do to counts and placings (k21) -/
namespace My
open PySem PySem.W PySem.Spec PyProof.Rows L2 GX GxR
/-- no number is less -/
def LeAll (ys zs : List Int) : Prop := ∀ (i : Nat) (y z : Int), ys[i]? = some y → zs[i]? = some z → y ≤ z
theorem LeAll.tl {y z : Int} {ys zs : List Int} (h : LeAll (y :: ys) (z :: zs)) : LeAll ys zs := fun i a b e1 e2 => h (i + 1) a b (by simpa using e1) (by simpa using e2)
theorem fitN_le {n : Int} : ∀ (xs ys zs : List Int), ys.length = zs.length → LeAll ys zs → fitN xs n ys = true → fitN xs n zs = true
  | [], _, _, _, _, _ => rfl
  | x :: xs, [], [], _, _, _ => rfl
  | x :: xs, y :: ys, z :: zs, hl, h, hf => by
    unfold fitN at hf ⊢
    rw [List.zipWith_cons_cons, List.all_cons, Bool.and_eq_true] at hf ⊢
    refine ⟨?_, fitN_le xs ys zs (by simpa using hl) h.tl hf.2⟩
    have h0 : y ≤ z := h 0 y z rfl rfl
    have h1 : x * n ≤ y := of_decide_eq_true hf.1
    exact decide_eq_true (by omega)
  | x :: xs, [], z :: zs, hl, _, _ => by simp at hl
  | x :: xs, y :: ys, [], hl, _, _ => by simp at hl
theorem cnt_le {most : Int} {xs ys zs : List Int} (hx : ∀ x ∈ xs, 0 ≤ x) (hy : ∀ y ∈ ys, 0 ≤ y) (hz : ∀ y ∈ zs, 0 ≤ y) (hl : xs.length = ys.length) (hl2 : ys.length = zs.length) (pos : ∃ x ∈ xs, 0 < x) (h : LeAll ys zs) : cnt most xs ys ≤ cnt most xs zs := by
  have n1 := quots_ne xs ys hl pos
  have n2 := quots_ne xs zs (hl.trans hl2) pos
  have f1 : fitN xs (leastL (quots xs ys)) ys = true := by rw [fit_iff hx hy hl n1]; exact decide_eq_true (Int.le_refl _)
  have f2 := fitN_le xs ys zs hl2 h f1
  rw [fit_iff hx hz (hl.trans hl2) n2] at f2
  have := of_decide_eq_true f2
  unfold cnt
  split <;> split <;> omega
theorem quots_scale {k : Int} (hk : 0 < k) : ∀ xs ys : List Int, quots (xs.map (k * ·)) (ys.map (k * ·)) = quots xs ys
  | [], _ => by simp [quots]
  | x :: xs, [] => by simp [quots]
  | x :: xs, y :: ys => by
    have ih := quots_scale hk xs ys
    have e : k * y / (k * x) = y / x := Int.mul_ediv_mul_of_pos _ _ hk
    have p : 0 < k * x ↔ 0 < x := by
      constructor
      · intro h
        refine Int.not_le.mp fun z => ?_
        have := Int.mul_le_mul_of_nonneg_left z (Int.le_of_lt hk)
        rw [Int.mul_zero] at this
        omega
      · intro h
        exact Int.mul_pos hk h
    rw [List.map_cons, List.map_cons]
    unfold quots
    by_cases h : 0 < x
    · rw [if_pos h, if_pos (p.mpr h), ih, e]
    · rw [if_neg h, if_neg (fun z => h (p.mp z)), ih]
theorem cnt_scale {k most : Int} (hk : 0 < k) (xs ys : List Int) : cnt most (xs.map (k * ·)) (ys.map (k * ·)) = cnt most xs ys := by
  unfold cnt
  rw [quots_scale hk]
theorem ydOf_not {rs : List House} {h : Str} (n : ∀ r ∈ rs, r.name ≠ h) : ydOf rs h = Str.ofString "" := by
  unfold ydOf
  have e : (rs.find? fun r => decide (r.name = h)) = none := List.find?_eq_none.mpr fun r hr => by simpa using n r hr
  rw [e]
  rfl
theorem ydOf_eq {rs rs' : List House} (nd : (rs.map (·.name)).Nodup) (nd' : (rs'.map (·.name)).Nodup) (h : ∀ r ∈ rs, ∃ r' ∈ rs', r'.name = r.name ∧ r'.yard = r.yard) (h' : ∀ r ∈ rs', ∃ r' ∈ rs, r'.name = r.name) : ydOf rs' = ydOf rs := by
  funext z
  by_cases hz : ∃ r ∈ rs, r.name = z
  · obtain ⟨r, hr, rfl⟩ := hz
    obtain ⟨r', hr', e1, e2⟩ := h r hr
    rw [ydOf_is nd hr, ← e1, ydOf_is nd' hr', e2]
  · rw [ydOf_not fun r hr e => hz ⟨r, hr, e⟩, ydOf_not fun r hr e => by
      obtain ⟨r', hr', e1⟩ := h' r hr
      exact hz ⟨r', hr', e1.trans e⟩]
theorem ydOf_perm {rs rs' : List House} (nd : (rs.map (·.name)).Nodup) (p : rs'.Perm rs) : ydOf rs' = ydOf rs :=
  ydOf_eq nd ((p.map _).nodup_iff.mpr nd) (fun r hr => ⟨r, p.mem_iff.mpr hr, rfl, rfl⟩) fun r hr => ⟨r, p.mem_iff.mp hr, rfl⟩
/-- every house stands there still, with no less left -/
def Richer (rs rs' : List House) : Prop := ∀ r ∈ rs, ∃ r' ∈ rs', r'.name = r.name ∧ r'.yard = r.yard ∧ r'.left.length = r.left.length ∧ LeAll r.left r'.left
theorem richer_pl {how : Str} {many most : Int} {want : List Int} {rs rs' rs0 rs1 : List House} {w : List (Str × Int)} (hw : ∀ x ∈ want, 0 ≤ x) (pos : ∃ x ∈ want, 0 < x) (h1 : ∀ r ∈ rs, (∀ y ∈ r.left, 0 ≤ y) ∧ r.left.length = want.length) (h2 : ∀ r ∈ rs', ∀ y ∈ r.left, 0 ≤ y) (nd : (rs.map (·.name)).Nodup) (nd' : (rs'.map (·.name)).Nodup) (rich : Richer rs rs') (p0 : rs0.Perm rs) (p1 : rs1.Perm rs')
    (h : IsPl how many (ydOf rs) (rowsC most want rs0) w) : IsPl how many (ydOf rs') (rowsC most want rs1) w := by
  obtain ⟨a, b, c, d⟩ := h
  have key : ∀ q ∈ w, ∃ r ∈ rs, r.name = q.1 ∧ 1 ≤ q.2 ∧ q.2 ≤ cnt most want r.left := fun q hq => by
    obtain ⟨m, b1, b2, b3⟩ := b q hq
    obtain ⟨r, hr, e⟩ := List.mem_map.mp b1
    exact ⟨r, p0.mem_iff.mp hr, congrArg Prod.fst e, b2, by rw [show cnt most want r.left = m from congrArg Prod.snd e]; exact b3⟩
  refine ⟨a, fun q hq => ?_, c, ?_⟩
  · obtain ⟨r, hr, e, g1, g2⟩ := key q hq
    obtain ⟨r', hr', e1, e2, e3, e4⟩ := rich r hr
    refine ⟨cnt most want r'.left, List.mem_map.mpr ⟨r', p1.mem_iff.mpr hr', by rw [e1, e]⟩, g1, ?_⟩
    exact Int.le_trans g2 (cnt_le hw (h1 r hr).1 (h2 r' hr') (h1 r hr).2.symm e3.symm pos e4)
  · have e : (w.map fun q => ydOf rs' q.1) = w.map fun q => ydOf rs q.1 := List.map_congr_left fun q hq => by
      obtain ⟨r, hr, e, _⟩ := key q hq
      obtain ⟨r', hr', e1, e2, _⟩ := rich r hr
      rw [← e, ydOf_is nd hr, ← e1, ydOf_is nd' hr', e2]
    rw [e]
    exact d
def scaleH (k : Int) (r : House) : House := ⟨r.name, r.yard, r.left.map (k * ·)⟩
theorem rows_scale {k most : Int} (hk : 0 < k) (want : List Int) (rs : List House) : rowsC most (want.map (k * ·)) (rs.map (scaleH k)) = rowsC most want rs := by
  unfold rowsC
  rw [List.map_map]
  refine List.map_congr_left fun r _ => ?_
  show (r.name, cnt most (want.map (k * ·)) (r.left.map (k * ·))) = _
  rw [cnt_scale hk]
end My

set_option maxHeartbeats 1000000
/-! zip(tuple, list) -/
namespace ZN
open PySem ZM
theorem meets_new (l1 l2 : Addr) (xs ys : Array Value) : Meets (Builtin.«zip.__new__» ⟨[.type "zip", .ref l1, .ref l2], []⟩) (fun _ R s => s.heap.IsTuple l1 xs ∧ s.heap.IsList l2 ys ∧
    R (.ok (.ret (.ref (four s.heap (itr "tuple_iterator" l1) (itr "list_iterator" l2)).objs.size))) { s with heap := five s.heap (itr "tuple_iterator" l1) (itr "list_iterator" l2) }) :=
  .of_wp fun prog w A R s h => by
    obtain ⟨hp, g, d, tk, os⟩ := s
    obtain ⟨q1, q2, h⟩ := h
    have hsub := sub_zip
    have hL1 : Heap.IsTuple (Shared.heap ⟨hp, g, d, tk, os⟩) l1 xs := q1
    have hL2 : Heap.IsList (Shared.heap ⟨hp.push (itr "tuple_iterator" l1), g, d, tk, os⟩) l2 ys := Heap.IsList.push q2 _
    wp_walk using wpAny_pyIter_tuple hL1, wpAny_pyIter_list hL2
    exact ⟨_, rfl, h⟩
section
variable {prog : Program} {w : World} {A : Around} {E : Value → Shared → Prop} {s : Shared}
theorem call_mixed {l1 l2 : Addr} {xs ys : Array Value} {Q : Value → Shared → Prop} (q1 : s.heap.IsTuple l1 xs) (q2 : s.heap.IsList l2 ys)
    (h : ∀ h' n, n = s.heap.objs.size → IsZip h' (n + 4) (n + 2) (n + 3) .none → IsPair h' (n + 2) (.ref n) (.ref (n + 1)) → IsPair h' (n + 3) .none .none → h'.IsTupleIter n l1 0 → h'.IsListIter (n + 1) l2 0 →
      (∀ c o, s.heap.get? c = some o → h'.get? c = some o) → Q (.ref (n + 4)) { s with heap := h' }) : wpAny (model prog w) A (call (.type "zip") [.ref l1, .ref l2]) Q E s := by
  refine callType_new F.called_zip (by decide) (F.typeCall_zip_2 _ _) (F.newCall_zip_2 _ _) (fun obj => F.args_object_init_3 obj _ _) F.entry_zip_new (meets_new l1 l2 xs ys) ⟨q1, q2, ?_⟩
  generalize hp : itr "tuple_iterator" l1 = p
  generalize hq : itr "list_iterator" l2 = q
  have n1 : (s.heap.push p).objs.size = s.heap.objs.size + 1 := Heap.size_push ..
  have n2 : (two s.heap p q).objs.size = s.heap.objs.size + 2 := by rw [Heap.size_push, n1]
  have n3 : (three s.heap p q).objs.size = s.heap.objs.size + 3 := by rw [Heap.size_push, n2]
  have n4 : (four s.heap p q).objs.size = s.heap.objs.size + 4 := by rw [Heap.size_push, n3]
  have kp : ∀ {h : Heap} {o r : Obj} {c : Addr}, h.get? c = some o → (h.push r).get? c = some o := fun e => Heap.get?_push_of_some _ e
  have f1 : p.isFreed = false := by rw [← hp]; rfl
  have f2 : q.isFreed = false := by rw [← hq]; rfl
  have a1 : (five s.heap p q).get? s.heap.objs.size = some p := kp (kp (kp (kp (Heap.get?_push_size _ f1))))
  have a2 : (five s.heap p q).get? (s.heap.push p).objs.size = some q := kp (kp (kp (Heap.get?_push_size _ f2)))
  have a3 : (five s.heap p q).get? (two s.heap p q).objs.size = some _ := kp (kp (Heap.get?_push_size _ rfl))
  have a4 : (five s.heap p q).get? (three s.heap p q).objs.size = some _ := kp (Heap.get?_push_size _ rfl)
  have a5 : (five s.heap p q).get? (four s.heap p q).objs.size = some _ := Heap.get?_push_size _ rfl
  show _ ∧ _
  rw [n2, n3, n4] at a5
  rw [n1, n2] at a3
  rw [n3] at a4
  rw [n1] at a2
  rw [n4]
  subst hp hq
  exact ⟨⟨_, a5, rfl⟩, h _ _ rfl a5 a3 a4 ⟨_, a1, rfl, rfl⟩ ⟨_, a2, rfl, rfl⟩ fun c o e => kp (kp (kp (kp (kp e))))⟩
end
section
variable {prog : Program} {w : World}
theorem ends_tup {it l : Addr} {k : Nat} {xs : Array Value} (hx : xs[k]? = none) : Ends prog w it (fun h => h.IsTupleIter it l k ∧ h.IsTuple l xs) :=
  fun _ _ _ _ hh p h => RZ.nextOf_tuple_end hh p.1 p.2 hx h
end
end ZN
namespace ZN
open PySem PySem.Spec PyProof.Rows L2 ZM
/-- the list at a and the tuple at b as they stand at each turn, the items in new pairs; stopped by the list -/
def ItM (K : PySem.W.Frag) (a b : Addr) : It :=
  ⟨fun i H => ∃ (xs ys : List V) (x y : V), SqT K H a xs ∧ SqL K H b ys ∧ xs[i]? = some x ∧ ys[i]? = some y,
    fun i H v H' => ∃ T x y, v = .ref T ∧ H T = none ∧ H' = upd H T (.tup [x, y]) ∧ (∀ xs, SqT K H a xs → xs[i]? = some x) ∧ ∀ ys, SqL K H b ys → ys[i]? = some y,
    fun i H => ∃ xs : List V, SqT K H a xs ∧ xs.length ≤ i⟩
theorem walk_mixed {K : PySem.W.Frag} {a b : Addr} {xs ys : List V} (hl : xs.length = ys.length) : Walk (ItM K a b) xs.length (fun H => SqT K H a xs ∧ SqL K H b ys) (YPair (fun i => xs[i]?) (fun i => ys[i]?)) :=
  ⟨fun i _ hi q => ⟨xs, ys, xs[i], ys[i]'(by omega), q.1, q.2, List.getElem?_eq_getElem hi, List.getElem?_eq_getElem (by omega)⟩, fun _ q => ⟨xs, q.1, Nat.le_refl _⟩, fun _ _ _ _ _ q y => by
    obtain ⟨T, x, y, e, n, e2, f1, f2⟩ := y
    exact ⟨T, x, y, e, n, e2, f1 _ q.1, f2 _ q.2⟩⟩
theorem turn_mixed {P : Program} {w : World} {K : PySem.W.Frag} {elts : List Expr} {kk : Nat} {tpos : Pos} {a b z TI TO i1 i2 : Addr} (D : ZipApart z TI TO i1 i2 a b) :
    Turn P w K (.Tuple elts kk tpos) (ItM K a b) [z, TI, TO, i1, i2] z (fun i h => IsZip h z TI TO .none ∧ IsPair h TI (.ref i1) (.ref i2) ∧ (∃ x y, IsPair h TO x y) ∧ h.IsTupleIter i1 a i ∧ h.IsListIter i2 b i) where
  mem := List.mem_cons_self
  obj := fun i h st c hc => by
    obtain ⟨hz, hTI, ⟨x, y, hTO⟩, ⟨o1, e1, _, d1⟩, ⟨o2, e2, _, d2⟩⟩ := st
    simp only [List.mem_cons, List.not_mem_nil, or_false] at hc
    rcases hc with rfl | rfl | rfl | rfl | rfl
    · exact ⟨_, hz, fun v q => nomatch q⟩
    · exact ⟨_, hTI, fun v q => nomatch q⟩
    · exact ⟨_, hTO, fun v q => nomatch q⟩
    · exact ⟨o1, e1, fun v q => by rw [d1] at q; cases q⟩
    · exact ⟨o2, e2, fun v q => by rw [d2] at q; cases q⟩
  keep := fun i h h' st k => by
    obtain ⟨hz, hTI, ⟨x, y, hTO⟩, h1, h2⟩ := st
    exact ⟨k z (by simp) _ hz, k TI (by simp) _ hTI, ⟨x, y, k TO (by simp) _ hTO⟩, h1.at fun o q => k i1 (by simp) o q, h2.at fun o q => k i2 (by simp) o q⟩
  item := by
    intro X hP hw hK hc i pins s σ H E I hf st hg
    subst hP hw hK
    obtain ⟨hz, hTI, ⟨x0, y0, hTO⟩, h1, h2⟩ := st
    obtain ⟨xs, ys, x, y, hqx, hqy, hx, hy⟩ := hg
    obtain ⟨us, ru, p1, _⟩ := I.tuple hqx
    obtain ⟨ws, rw', p2, _⟩ := I.list hqy
    obtain ⟨u, hu, r1⟩ := ru.get hx
    obtain ⟨u2, hu2, r2⟩ := rw'.get hy
    have zlt : z < s.heap.objs.size := Heap.lt_size hz
    have below : ∀ c ∈ [z, TI, TO, i1, i2], c < s.heap.objs.size := fun c hc => by
      simp only [List.mem_cons, List.not_mem_nil, or_false] at hc
      rcases hc with rfl | rfl | rfl | rfl | rfl
      · exact zlt
      · exact Heap.lt_size hTI
      · exact Heap.lt_size hTO
      · obtain ⟨_, e, _⟩ := h1; exact Heap.lt_size e
      · obtain ⟨_, e, _⟩ := h2; exact Heap.lt_size e
    refine next_item D.TOz D.i1z D.i2z D.TOi1 D.TOi2 D.i12 (gives_tup (xs := us.toArray) (x := u) (by simpa using hu)) (gives_list (xs := ws.toArray) (x := u2) (by simpa using hu2)) (off_tup D.i1z D.l1z) (off_list D.i2z D.l2z) (off_list D.TOi2.symm D.l2TO) (off_list D.i12.symm D.l2i1)
      hz hTI hTO ⟨h1, p1⟩ ⟨h2, p2.isList⟩ fun h' g1 g2 z' TO' q1 k1 q2 k2 hT hk => ⟨_, rfl, wpAny_letOwnedTupleGo_zip (s := { s with heap := h' }) z' fun h'' z'' sb => ?_⟩
    have up : ∀ c o, c ≠ z → h'.get? c = some o → h''.get? c = some o := fun c o n e => (sb.2 c n).trans e
    have new : ObjOk X.prog X.w (upd H s.heap.objs.size (.tup [x, y])) h'' s.heap.objs.size (.tup [x, y]) :=
      ⟨by show 2 ≤ sizeLine; decide, [u, u2], .cons r1 (.cons r2 .nil), ⟨_, up _ _ (Nat.ne_of_gt zlt) hT, rfl, _, rfl⟩⟩
    have I1 : Inv X pins σ (upd H s.heap.objs.size (.tup [x, y])) { s with heap := h'' } :=
      I.turnedNew (t' := s.toks) (ch := [z, TI, TO, i1, i2]) (fun c o hb q => by
        simp only [List.mem_cons, List.not_mem_nil, or_false, not_or] at hb
        exact up c o hb.1 (hk c o hb.1 hb.2.2.1 hb.2.2.2.1 hb.2.2.2.2 q)) hf (Nat.le_refl _) new
    refine ⟨.ref s.heap.objs.size, _, I1, rfl, ⟨_, x, y, rfl, I.hok.fresh (Nat.le_refl _), rfl, fun l hl => by rw [I.tuple_inj hl hqx]; exact hx, fun l hl => by rw [I.list_inj hl hqy]; exact hy⟩,
      ⟨z'', up _ _ D.TIz (hk _ _ D.TIz D.TITO D.TIi1 D.TIi2 hTI), ⟨u, u2, up _ _ D.TOz TO'⟩, q1.at fun o e => up _ o D.i1z (k1 o e), q2.at fun o e => up _ o D.i2z (k2 o e)⟩, fun c hcm => ?_⟩
    rw [upd_ne (Nat.ne_of_lt (below c hcm))]
    exact (hf c hcm).1
  done := by
    intro X hP hw hK hc i pins s σ H E I hf st hg
    subst hP hw hK
    obtain ⟨hz, hTI, hTO, h1, h2⟩ := st
    obtain ⟨xs, hqx, hend⟩ := hg
    obtain ⟨us, ru, p1, _⟩ := I.tuple hqx
    have l1 := ru.length
    exact next_end (I.ok.hd hc) D.i1z (ends_tup (xs := us.toArray) (by simp; omega)) (off_tup D.i1z D.l1z) hz hTI ⟨h1, p1⟩ fun h' hk => ⟨rfl, I.turnedL (t' := s.toks) (ch := [z, TI, TO, i1, i2]) (fun c o hb q => by
      simp only [List.mem_cons, List.not_mem_nil, or_false, not_or] at hb
      exact hk c o hb.1 hb.2.2.2.1 q) hf⟩
  self := fun A i s Q E st h => wpAny_pyIter_zip st.1 h
def iMixTL (K : PySem.W.Frag) (ta : TA) : TI := fun σ H R => ta σ H fun vs H1 => ∃ a b xs ys, vs = [.ref a, .ref b] ∧ SqT K H1 a xs ∧ SqL K H1 b ys ∧ R (ItM K a b) H1
theorem pi_mixTL {X : Cx} {e e2 : Expr} {ta : TA} {p pos tpos : Pos} {elts : List Expr} {kk : Nat} (hg : Gl X "zip") (hm : X.mg "zip" = none) (ha : PA X [e, e2] ta)
    (hs : starEach [e, e2] X.env = (false, eval e X.env) :: starEach [e2] X.env := by rfl) (hpl : (backTo pos (starEach [e2] X.env)).any (·.1) = false := by rfl) :
    PI X (.Tuple elts kk tpos) (.Call (.Name "zip" p) [e, e2] [] pos) (iMixTL X.K ta) := by
  refine ⟨fun pins s σ H R I h => ?_⟩
  refine Call_ (ld_blt I hg hm PyProof.Rows.boot_zip (PyProof.Rows.callWith_type1 (thn (ha.run pos pins s σ H _ I h) fun us s1 ⟨vs, H1, I1, r1, q1⟩ => ?_) hs hpl))
  obtain ⟨a, b, xs, ys, ex, hqx, hqy, q⟩ := q1
  subst ex
  cases r1 with
  | cons r rr =>
    cases rr with
    | cons r' rr =>
      cases rr
      cases r
      cases r'
      obtain ⟨us, ru, p1, _⟩ := I1.tuple hqx
      obtain ⟨ws, rw', p2, _⟩ := I1.list hqy
      obtain ⟨o2, ho2, _⟩ := id p1
      refine call_mixed (show s1.heap.IsTuple a us.toArray from p1) p2.isList fun h' n en hz hTI hTO h1 h2 hk => wpAny_pyIter_zip hz ?_
      have I2 : Inv X pins σ H1 { s1 with heap := h' } := I1.kept (t' := s1.toks) hk
      subst en
      refine ⟨s1.heap.objs.size + 4, [s1.heap.objs.size + 4, s1.heap.objs.size + 2, s1.heap.objs.size + 3, s1.heap.objs.size, s1.heap.objs.size + 1], _, _, H1, rfl, I2, turn_mixed (PySem.W.ktu_apart s1.heap.objs.size a b (Heap.lt_size ho2) p2.lt), ⟨hz, hTI, ⟨_, _, hTO⟩, h1, h2⟩, fun c hc => ?_, q⟩
      have le : s1.heap.objs.size ≤ c := by
        simp only [List.mem_cons, List.not_mem_nil, or_false] at hc
        rcases hc with h | h | h | h | h <;> rw [h]
        · exact Nat.le_add_right _ _
        · exact Nat.le_add_right _ _
        · exact Nat.le_add_right _ _
        · exact Nat.le_refl _
        · exact Nat.le_add_right _ _
      exact I1.fpOk le (I1.hok.fresh le)
end ZN

set_option maxHeartbeats 1000000
namespace My
open PySem PySem.Spec PyProof.Rows L2 GX GxR
abbrev s_scMo : Stmt := topS 31
abbrev n_scMo : List Str := ["_law_box_here", "_law_site_here", "_law_want_here", "_law_made", "_law_house", "_law_yard", "_law_left_here", "_law_more_here", "_law_one", "_law_a", "_law_b", "_law_row"]
theorem scMo : FnScope n_scMo ["_law_box_here", "_law_site_here", "_law_want_here"] (defScope s_scMo) := ⟨rfl, rfl, rfl, by decide +kernel, rfl, by decide +kernel, by decide +kernel⟩
def spMore : Sp := fun vs H Q _ => ∃ (b s pw : Addr) (c : Int) (want : List Int) (rs : List House), vs = [.ref b, .ref s, .ref pw] ∧ BoxAt H b c ∧ c ≤ 100000000 ∧ SiteAt want.length H s rs ∧ s ≠ b ∧ H pw = some (.tup (want.map V.int)) ∧ Amt want ∧ want.length ≤ 8 ∧ (∀ r ∈ rs, r.name ≠ Str.ofString "nosuch") ∧
  ∀ (p : Addr) (rs' : List House) (H' : Hp), Richer rs rs' → SiteAt want.length H' p rs' → Kp [b] H H' → BoxAt H' b (c + 640) → H p = none → Q (.ref p) H'
/-- as many houses, in the same order, with no less left -/
structure Rich (rs made : List House) : Prop where
  nm : made.map (·.name) = rs.map (·.name)
  yd : made.map (·.yard) = rs.map (·.yard)
  le : ∀ (j : Nat) (r r' : House), rs[j]? = some r → made[j]? = some r' → LeAll r.left r'.left ∧ r'.left.length = r.left.length ∧ Amt r'.left
theorem Rich.snoc {rs made : List House} {r r' : House} (h : Rich rs made) (e1 : r'.name = r.name) (e2 : r'.yard = r.yard) (e3 : LeAll r.left r'.left) (e4 : r'.left.length = r.left.length) (e5 : Amt r'.left) : Rich (rs ++ [r]) (made ++ [r']) := by
  have hl : made.length = rs.length := by
    have := congrArg List.length h.nm
    rwa [List.length_map, List.length_map] at this
  refine ⟨by rw [List.map_append, List.map_append, h.nm, List.map_singleton, List.map_singleton, e1], by rw [List.map_append, List.map_append, h.yd, List.map_singleton, List.map_singleton, e2], fun j x x' hx hx' => ?_⟩
  by_cases hj : j < rs.length
  · rw [List.getElem?_append_left hj] at hx
    rw [List.getElem?_append_left (by omega)] at hx'
    exact h.le j x x' hx hx'
  · have hj2 : j = rs.length := by
      have := (List.getElem?_eq_some_iff.mp hx).1
      rw [List.length_append, List.length_singleton] at this
      omega
    rw [hj2, List.getElem?_append_right (Nat.le_refl _), Nat.sub_self] at hx
    rw [hj2, ← hl, List.getElem?_append_right (Nat.le_refl _), Nat.sub_self] at hx'
    cases hx
    cases hx'
    exact ⟨e3, e4, e5⟩
theorem Rich.len {rs made : List House} (h : Rich rs made) : made.length = rs.length := by
  have := congrArg List.length h.nm
  rwa [List.length_map, List.length_map] at this
theorem Rich.richer {rs made t : List House} (h : Rich rs made) : Richer rs (made ++ t) := fun r hr => by
  obtain ⟨j, hj⟩ := List.mem_iff_getElem?.mp hr
  have hj1 : j < rs.length := (List.getElem?_eq_some_iff.mp hj).1
  have hj2 : j < made.length := by rw [h.len]; exact hj1
  obtain ⟨g1, g2, g3⟩ := h.le j r made[j] hj (List.getElem?_eq_getElem hj2)
  refine ⟨made[j], List.mem_append_left _ (List.getElem_mem hj2), ?_, ?_, g2, g1⟩
  · have := congrArg (fun l => l[j]?) h.nm
    simp only [List.getElem?_map, List.getElem?_eq_getElem hj2, hj] at this
    exact Option.some.inj this
  · have := congrArg (fun l => l[j]?) h.yd
    simp only [List.getElem?_map, List.getElem?_eq_getElem hj2, hj] at this
    exact Option.some.inj this
theorem get_intM {ns : List Int} {j : Nat} {x : V} (h : (ns.map V.int)[j]? = some x) : ∃ one, ns[j]? = some one ∧ x = .int one := by
  rw [List.getElem?_map] at h
  cases e : ns[j]? with
  | none => rw [e] at h; cases h
  | some one =>
    rw [e] at h
    exact ⟨one, rfl, (Option.some.inj h).symm⟩
/-- what is left and some more, up to the bound -/
def plus (ls ms : List Int) : List Int := List.zipWith (fun a b : Int => if a + b < 1000000000000 then a + b else 1000000000000) ls ms
theorem plus_take {ls ms : List Int} {j : Nat} {x y : Int} (hx : ls[j]? = some x) (hy : ms[j]? = some y) : (plus ls ms).take (j + 1) = (plus ls ms).take j ++ [if x + y < 1000000000000 then x + y else 1000000000000] := by
  have : (plus ls ms)[j]? = some (if x + y < 1000000000000 then x + y else 1000000000000) := by
    unfold plus
    rw [List.getElem?_zipWith, hx, hy]
  rw [List.take_add_one, this]
  rfl
theorem plus_le {ls ms : List Int} (hl : Amt ls) (hm : ∀ x ∈ ms, 0 ≤ x) : LeAll ls (plus ls ms) := fun i y z hy hz => by
  unfold plus at hz
  rw [List.getElem?_zipWith, hy] at hz
  cases e : ms[i]? with
  | none => rw [e] at hz; cases hz
  | some m =>
    rw [e] at hz
    have h1 := hm m (List.mem_of_getElem? e)
    have h2 := (hl y (List.mem_of_getElem? hy)).2
    have h3 : (if y + m < 1000000000000 then y + m else 1000000000000) = z := Option.some.inj hz
    rw [← h3]
    split <;> omega
theorem plus_amt {ls ms : List Int} (hl : Amt ls) (hm : ∀ x ∈ ms, 0 ≤ x) : Amt (plus ls ms) := fun z hz => by
  obtain ⟨i, hi⟩ := List.mem_iff_getElem?.mp hz
  unfold plus at hi
  rw [List.getElem?_zipWith] at hi
  cases e1 : ls[i]? with
  | none => rw [e1] at hi; cases hi
  | some a =>
    cases e : ms[i]? with
    | none => rw [e1, e] at hi; cases hi
    | some m =>
      rw [e1, e] at hi
      have h1 := hm m (List.mem_of_getElem? e)
      have h2 := hl a (List.mem_of_getElem? e1)
      have h3 : (if a + m < 1000000000000 then a + m else 1000000000000) = z := Option.some.inj hi
      rw [← h3]
      split <;> constructor <;> omega
section
variable {P : Program} {w : World} {K : PySem.W.Frag} {mg : Str → Option Value} {base : Heap}
theorem ok_more {f fT : Addr} {fd fdT : FuncData} {k : Nat} (F : Fun K "_law_more" "_law_more" s_scMo f fd) (X : Txt mg)
    (GT : FnOk P w K mg base CX0 k fT fdT ["_law_box_here", "_law_many_here"] spTakeW) (mT : mg "_law_take" = some (.ref fT)) (kT : PySem.W.keepIn K (.ref fT) = true) (bT : Binds K fdT ["_law_box_here", "_law_many_here"] []) :
    FnOk P w K mg base CX0 (k + 1) f fd ["_law_box_here", "_law_site_here", "_law_want_here"] spMore := by
  refine F.ok scMo (fun vs H Q E h => ?_) (fun cdv A outer s H vs Q E hr h => ?_)
  · obtain ⟨b, s, pw, c, want, rs, rfl, _⟩ := h
    rfl
  · obtain ⟨b, s', pw, c, want, rs, rfl, hB, hc, hsite, sb, hW, hA, h8, hno, q⟩ := h
    refine ⟨_, (pss_cons (ps_set (i := 3) scMo.nd rfl (.inl rfl) (pe_lst pa_nil))
(C8.pss_cut (ps_for PassesOwn.never rfl (pi_list (pv 1)) (pg_tup rfl (pgs_cons (pg_name (i := 4) scMo.nd rfl (.inl rfl)) (pgs_cons (pg_name (i := 5) scMo.nd rfl (.inl rfl)) (pgs_cons (pg_name (i := 6) scMo.nd rfl (.inl rfl)) pgs_nil))))
  (pss_cons (ps_setLc (i := 7) (own := [("_law_one", 8)]) (g := (gName 8)) (tt := tYes) rfl scMo.nd rfl rfl (sw_true rfl rfl rfl (by decide +kernel)) (pi_tup (pv 2)) (blkOk_by (own := [("_law_one", 8)]) (N := n_scMo) (sc := defScope s_scMo) (by decide +kernel)) (fun _ _ _ _ _ => (pg_name (i := 8) scMo.nd rfl (.inl rfl))) (fun _ _ _ _ _ => pts_nil) (fun _ _ _ _ _ => (pe_op op_add (pe_op op_mul (pv 8) (pe_call GT hr (by rfl) mT kT bT .nil pass0 (pa_cons (pv 0) (pa_cons pe_int pa_nil)))) (pe_call GT hr (by rfl) mT kT bT .nil pass0 (pa_cons (pv 0) (pa_cons pe_int pa_nil))))))
  (pss_one (ps_expr (pe_bm PySem.F.plainAttrs_list PySem.F.slot_list_append PySem.F.type_list_append mt_append (pv 3) (pa_cons (pe_tup (pa_cons (pv 4) (pa_cons (pv 5) (pa_cons (pe_callTy call_tuple_of (by rfl) X.tup bt_tuple (pa_cons (pe_lc (own := [("_law_a", 9), ("_law_b", 10)]) (g := (gTup K 2 (gCons (gName 9) (gCons (gName 10) gNil)))) (tt := tYes) rfl scMo.nd (ZN.pi_mixTL (by rfl) X.zip (pa_cons (pv 6) (pa_cons (pv 7) pa_nil))) (blkOk_by (own := [("_law_a", 9), ("_law_b", 10)]) (N := n_scMo) (sc := defScope s_scMo) (by decide +kernel)) (fun _ _ _ _ _ => (pg_tup rfl (pgs_cons (pg_name (i := 9) scMo.nd rfl (.inl rfl)) (pgs_cons (pg_name (i := 10) scMo.nd rfl (.inl rfl)) pgs_nil)))) (fun _ _ _ _ _ => pts_nil) (fun _ _ _ _ _ => (pe_callB (call_min2 rfl) (by rfl) X.min (by decide +kernel) (pa_cons (pe_op op_pow pe_int pe_int) (pa_cons (pe_op op_add (pv 9) (pv 10)) pa_nil))))) pa_nil)) pa_nil)))) pa_nil))))))
(C8.pss_cut (ps_if (pt_cmpR op_lt (pe_callB call_len_seq (by rfl) X.len PySem.boot_len (pa_cons (pv 3) pa_nil)) pe_int (nomark _))
  (pss_one (ps_expr (pe_bm PySem.F.plainAttrs_list PySem.F.slot_list_append PySem.F.type_list_append mt_append (pv 3) (pa_cons (pe_tup (pa_cons pe_str (pa_cons (pe_ix ix_list (pe_lc (own := [("_law_row", 11)]) (g := (gName 11)) (tt := tYes) rfl scMo.nd (pi_list (pe_op op_cat (pv 3) (pe_lst (pa_cons (pe_tup (pa_cons pe_str (pa_cons pe_str (pa_cons (pe_tup pa_nil) pa_nil)))) pa_nil)))) (blkOk_by (own := [("_law_row", 11)]) (N := n_scMo) (sc := defScope s_scMo) (by decide +kernel)) (fun _ _ _ _ _ => (pg_name (i := 11) scMo.nd rfl (.inl rfl))) (fun _ _ _ _ _ => pts_nil) (fun _ _ _ _ _ => (pe_ix (r := rIxT K) ix_tup (pv 11) pe_int (fun _ _ => rfl)))) pe_int (fun _ _ => rfl)) (pa_cons (pe_callTy call_tuple_of (by rfl) X.tup bt_tuple (pa_cons (pv 2) pa_nil)) pa_nil)))) pa_nil))))
  pss_nil)
(pss_one (ps_ret (pv 3)))))), ?_⟩
    obtain ⟨us, hs1, hs2, hnd, h40, hall⟩ := _root_.id hsite
    have lus : us.length = rs.length := hs2.len
    obtain ⟨hps, ps1, ps2, ps3⟩ := houses_pairs hs2
    refine ⟨by show 0 ≤ sizeLine; decide, fun D nD => ?_⟩
    have Db : D ≠ b := nb_of hB nD
    have Dnb : D ∉ [b] := fun z => Db (List.mem_singleton.mp z)
    have pwb : pw ∉ [b] := fun z => by
      obtain ⟨xs, h1, _⟩ := hB
      rw [List.mem_singleton.mp z, h1] at hW
      cases hW
    have sbn : s' ∉ [b] := fun z => sb (List.mem_singleton.mp z)
    refine ⟨fun σ H' => ∃ (y4 y5 y6 y7 y8 y9 y10 y11 : Option V) (made : List House) (vs : List V), σ = [some (.ref b), some (.ref s'), some (.ref pw), some (.ref D), y4, y5, y6, y7, y8, y9, y10, y11] ∧ Kp [b] H H' ∧ BoxAt H' b (c + 640) ∧ H' D = some (.lst vs) ∧ Houses H' vs made ∧ Rich rs made, ?_, fun σ H1 pm => ?_⟩
    · refine ⟨_, rfl, s', rfl, ⟨_, SqL.of (same_upd nD _ _ hs1)⟩, ?_⟩
      refine for_list (xs := us) (fun i σ H' => ∃ (y4 y5 y6 y7 y8 y9 y10 y11 : Option V) (made : List House) (vs : List V), σ = [some (.ref b), some (.ref s'), some (.ref pw), some (.ref D), y4, y5, y6, y7, y8, y9, y10, y11] ∧ Kp [b] H H' ∧ BoxAt H' b (c + 16 * i) ∧ H' D = some (.lst vs) ∧ Houses H' vs made ∧ Rich (rs.take i) made) ⟨none, none, none, none, none, none, none, none, [], [], rfl, kp_new (Kp.refl _ _) nD, by rw [Int.ofNat_zero, Int.mul_zero, Int.add_zero]; exact hB.same (same_upd nD), upd_same, .nil, ⟨rfl, rfl, fun j r r' h => by simp at h⟩⟩ (fun i σ H' _ p => ?_) (fun i x σ H1 hx p => ?_) (fun σ H' p => ?_)
      · obtain ⟨_, _, _, _, _, _, _, _, _, _, _, g, _⟩ := p
        exact SqL.of (g _ _ sbn hs1)
      · obtain ⟨y4, y5, y6, y7, y8, y9, y10, y11, made, vs, rfl, k1, B1, e1, h1, r1⟩ := p
        have hi : i < us.length := (List.getElem?_eq_some_iff.mp hx).1
        obtain ⟨pr, hpr, hprx⟩ : ∃ pr, hps[i]? = some pr ∧ pr.1 = x := by
          rw [← ps1, List.getElem?_map] at hx
          cases e : hps[i]? with
          | none => rw [e] at hx; cases hx
          | some pr => rw [e] at hx; exact ⟨pr, rfl, Option.some.inj hx⟩
        have hri : rs[i]? = some pr.2 := by rw [← ps2, List.getElem?_map, hpr]; rfl
        have hmem : pr.2 ∈ rs := List.mem_of_getElem? hri
        have ha := (ps3 pr (List.mem_of_getElem? hpr)).kp hB k1
        obtain ⟨t, l, e, g1, g2⟩ := _root_.id ha
        rw [hprx] at e
        subst e
        have hL := (hall pr.2 hmem).1
        have lL := (hall pr.2 hmem).2.1
        have nlD : l ≠ D := fun z => by rw [z, e1] at g2; cases g2
        refine ⟨t, _, rfl, SqT.of g1, rfl, _, _, rfl, _, _, rfl, _, _, rfl, rfl, ?_⟩
        have hW1 := k1 _ _ pwb hW
        refine ⟨_, rfl, pw, rfl, ⟨_, SqT.of hW1⟩, fun D2 nD2 => ?_⟩
        have D2b : D2 ≠ b := nb_of B1 nD2
        have D2nb : D2 ∉ [b] := fun z => D2b (List.mem_singleton.mp z)
        have B1' : BoxAt (upd H1 D2 (.lst [])) b (c + 16 * i) := B1.same (same_upd nD2)
        refine lc_tup (K := K) (xs := want.map V.int) (fun j H2 => Kp [b] H1 H2 ∧ BoxAt H2 b (c + 16 * i + 2 * j) ∧ ∃ ms : List Int, H2 D2 = some (.lst (ms.map V.int)) ∧ ms.length = j ∧ ∀ x ∈ ms, 0 ≤ x) ⟨kp_new (Kp.refl _ _) nD2, by rw [Int.ofNat_zero, Int.mul_zero, Int.add_zero]; exact B1', [], upd_same, rfl, fun x hx => by cases hx⟩ (fun j H2 _ p => SqT.of (p.1 _ _ pwb hW1)) (fun j x H2 hx2 p => ?_) (fun H2 pm2 => ?_)
        · obtain ⟨k2, B2, ms, m1, m2, m3⟩ := p
          obtain ⟨one, ho, rfl⟩ := get_intM hx2
          have hj : j < want.length := (List.getElem?_eq_some_iff.mp ho).1
          have ho1 := hA one (List.mem_of_getElem? ho)
          refine ⟨rfl, _, rfl, _, rfl, b, _, 3, rfl, B2, by decide, by decide, by omega, fun u1 H3 u10 u11 k3 B3 => ⟨one, u1, rfl, rfl, .inl ⟨by omega, by omega⟩, _, rfl, b, _, 2, rfl, B3, by decide, by decide, by omega, fun u2 H4 u20 u21 k4 B4 => ⟨_, u2, rfl, rfl, ?_⟩⟩⟩
          have m4 := k4 _ _ D2nb (k3 _ _ D2nb m1)
          refine ⟨_, m4, ?_, kp_put ((k2.trans k3).trans k4) nD2, ?_, ms ++ [one * u1 + u2], ?_, ?_, fun x hx => ?_⟩
          · rw [List.length_map]
            exact small1000 (by omega)
          · exact (B4.off D2b).le (by omega)
          · rw [upd_same, List.map_append]
            rfl
          · rw [List.length_append, m2]
            rfl
          · rcases List.mem_append.mp hx with z | z
            · exact m3 x z
            · rw [List.mem_singleton.mp z]
              have : 0 ≤ one * u1 := Int.mul_nonneg ho1.1 u10
              omega
        · obtain ⟨k2, B2, ms, m1, m2, m3⟩ := pm2
          rw [List.length_map] at m2 B2
          have lnb : l ∉ [b] := fun z => by
            obtain ⟨xs, hh, _⟩ := B1
            rw [List.mem_singleton.mp z, hh] at g2
            cases g2
          have g22 := k2 _ _ lnb g2
          have e12 := k2 _ _ Dnb e1
          have k12 := k1.trans k2
          refine ⟨_, rfl, .inl ⟨rfl, _, SqL.of e12⟩, _, rfl, _, rfl, _, rfl, _, rfl, l, D2, _, _, rfl, SqT.of g22, SqL.of m1, fun D3 nD3 => ?_⟩
          have lm : (pr.2.left.map V.int).length = (ms.map V.int).length := by rw [List.length_map, List.length_map, lL, m2]
          refine lc_it (ZN.walk_mixed lm) (fun j H' => Same H2 H' ∧ H' D3 = some (.lst (((plus pr.2.left ms).take j).map V.int)))
            ⟨same_upd nD3, upd_same⟩ (fun j H' _ p => ⟨SqT.of (p.1 _ _ g22), SqL.of (p.1 _ _ m1)⟩) (fun j v H4 H5 hj p y => ?_) (fun H4 p => ?_)
          · obtain ⟨T1, x1, x2, rfl, nT, rfl, q1, q2⟩ := y
            obtain ⟨p1, p2⟩ := p
            obtain ⟨x, hx, rfl⟩ := get_int q1
            obtain ⟨y, hy, rfl⟩ := get_int q2
            have s5 : Same H4 (upd H4 T1 (.tup [.int x, .int y])) := same_upd nT
            have hj2 : j < pr.2.left.length := (List.getElem?_eq_some_iff.mp hx).1
            refine ⟨T1, [.int x, .int y], rfl, SqT.of upd_same, rfl, .int x, [.int y], rfl, .int y, [], rfl, rfl, rfl, ?_⟩
            refine ⟨10, 12, rfl, rfl, ⟨by decide, by decide, by decide⟩, _, rfl, _, rfl, x, y, rfl, rfl, _, _, rfl, _, s5 _ _ p2, ?_, same_putA (p1.trans s5) nD3, ?_⟩
            · rw [List.length_map, List.length_take]
              exact small1000 (by omega)
            · rw [upd_same, plus_take hx hy, List.map_append]
              rfl
          · obtain ⟨p1, p2⟩ := p
            rw [List.take_of_length_le (by unfold plus; rw [List.length_zipWith, List.length_map]; exact Nat.min_le_left _ _)] at p2
            dsimp only [tNil]
            refine ⟨D3, _, rfl, .inl ⟨SqL.of p2, fun pL npL => ⟨by show 3 ≤ sizeLine; decide, fun pt npt => ?_⟩⟩⟩
            have s6 : Same H2 (upd (upd H4 pL (.tup ((plus pr.2.left ms).map V.int))) pt (.tup [.str pr.2.name, .str pr.2.yard, .ref pL])) := (p1.trans (same_upd npL)).trans (same_upd npt)
            have a1 : upd (upd H4 pL (.tup ((plus pr.2.left ms).map V.int))) pt (.tup [.str pr.2.name, .str pr.2.yard, .ref pL]) pt = some (.tup [.str pr.2.name, .str pr.2.yard, .ref pL]) := upd_same
            have a2 : upd (upd H4 pL (.tup ((plus pr.2.left ms).map V.int))) pt (.tup [.str pr.2.name, .str pr.2.yard, .ref pL]) pL = some (.tup ((plus pr.2.left ms).map V.int)) := same_upd npt _ _ upd_same
            generalize upd (upd H4 pL (.tup ((plus pr.2.left ms).map V.int))) pt (.tup [.str pr.2.name, .str pr.2.yard, .ref pL]) = H6 at s6 a1 a2 ⊢
            have e6 := s6 _ _ e12
            have k6 : Kp [b] H H6 := k12.trans (Same.kp _ s6)
            have B6 := B2.same s6
            have lv : vs.length ≤ 40 := by
              rw [h1.len, r1.len, List.length_take]
              omega
            refine ⟨D, vs, _, rfl, rfl, e6, Nat.lt_of_le_of_lt lv (by decide), ?_⟩
            refine ⟨_, _, _, _, _, _, _, _, made ++ [⟨pr.2.name, pr.2.yard, plus pr.2.left ms⟩], _, rfl, kp_put k6 nD, (B6.off Db).le (by omega), upd_same, ?_, ?_⟩
            · exact Houses.snoc ((h1.imp fun v r h => (h.kp B1 k2).same s6).imp fun v r h => h.put e6) (HouseAt.put e6 ⟨pt, pL, rfl, a1, a2⟩)
            · rw [List.take_add_one, hri]
              refine Rich.snoc r1 rfl rfl (plus_le hL m3) ?_ (plus_amt hL m3)
              show (plus pr.2.left ms).length = _
              unfold plus
              rw [List.length_zipWith, m2, lL]
              exact Nat.min_self _
      · obtain ⟨y4, y5, y6, y7, y8, y9, y10, y11, made, vs, rfl, k1, B1, e1, h1, r1⟩ := p
        rw [lus, List.take_length] at r1
        exact ⟨y4, y5, y6, y7, y8, y9, y10, y11, made, vs, rfl, k1, B1.le (by omega), e1, h1, r1⟩
    obtain ⟨y4, y5, y6, y7, y8, y9, y10, y11, made, vs, rfl, k1, B1, e1, h1, r1⟩ := pm
    have lv : vs.length = rs.length := by rw [h1.len, r1.len]
    have lm := r1.len
    refine ⟨fun σ H' => ∃ (t : List House) (vs' : List V), σ = [some (.ref b), some (.ref s'), some (.ref pw), some (.ref D), y4, y5, y6, y7, y8, y9, y10, y11] ∧ Kp [b] H H' ∧ BoxAt H' b (c + 640) ∧ H' D = some (.lst vs') ∧ Houses H' vs' (made ++ t) ∧ (t = [] ∨ ∃ y0 : Str, t = [⟨Str.ofString "nosuch", y0, want⟩] ∧ PySem.PyData.strOk y0 = true ∧ made.length < 40), ?_, fun σ H2 pm => ?_⟩
    · refine ⟨_, rfl, D, _, rfl, .inl (SqL.of e1), _, _, rfl, rfl, _, rfl, ite2 (fun hlt => ?_) (fun hge => ⟨[], vs, rfl, k1, B1, e1, by rw [List.append_nil]; exact h1, .inl rfl⟩)⟩
      have hlt' : made.length < 40 := by
        have := of_decide_eq_true hlt
        rw [lv, ← lm] at this
        omega
      refine ⟨_, rfl, .inl ⟨rfl, _, SqL.of e1⟩, ?_⟩
      refine ⟨_, rfl, by show 0 ≤ sizeLine; decide, fun p0 np0 => ⟨by show 3 ≤ sizeLine; decide, fun p3 np3 => ⟨by show 1 ≤ sizeLine; decide, fun l2 nl2 => ?_⟩⟩⟩
      have s3 : Same H1 (upd (upd (upd H1 p0 (.tup [])) p3 (.tup [.str "", .str "y", .ref p0])) l2 (.lst [.ref p3])) := ((same_upd np0).trans (same_upd np3)).trans (same_upd nl2)
      have a3 : upd (upd (upd H1 p0 (.tup [])) p3 (.tup [.str "", .str "y", .ref p0])) l2 (.lst [.ref p3]) p3 = some (.tup [.str "", .str "y", .ref p0]) := same_upd nl2 _ _ upd_same
      have al2 : upd (upd (upd H1 p0 (.tup [])) p3 (.tup [.str "", .str "y", .ref p0])) l2 (.lst [.ref p3]) l2 = some (.lst [.ref p3]) := upd_same
      generalize upd (upd (upd H1 p0 (.tup [])) p3 (.tup [.str "", .str "y", .ref p0])) l2 (.lst [.ref p3]) = H3 at s3 a3 al2 ⊢
      refine ⟨D, l2, vs, _, rfl, rfl, s3 _ _ e1, al2, ?_, fun l3 nl3 => ?_⟩
      · show vs.length + 1 ≤ sizeLine
        rw [lv]
        exact Nat.le_of_lt (small1000 (by omega))
      have s4 : Same H3 (upd H3 l3 (.lst (vs ++ [V.ref p3]))) := same_upd nl3
      have al3 : upd H3 l3 (.lst (vs ++ [V.ref p3])) l3 = some (.lst (vs ++ [V.ref p3])) := upd_same
      generalize upd H3 l3 (.lst (vs ++ [V.ref p3])) = H4 at s4 al3 ⊢
      refine ⟨l3, rfl, ⟨_, SqL.of al3⟩, fun D4 nD4 => ?_⟩
      obtain ⟨hq, hq1, hq2, hq3⟩ := houses_pairs h1
      have lhq : hq.length = vs.length := by rw [← hq1, List.length_map]
      have each : ∀ i x, (vs ++ [V.ref p3])[i]? = some x → ∃ (t : Addr) (a0 y0 : Str) (r0 : V), x = V.ref t ∧ H4 t = some (.tup [.str a0, .str y0, r0]) ∧ (made.map (·.yard) ++ [Str.ofString "y"])[i]? = some y0 := fun i x hx => by
        by_cases hi : i < vs.length
        · rw [List.getElem?_append_left hi, ← hq1, List.getElem?_map] at hx
          cases e : hq[i]? with
          | none => rw [e] at hx; cases hx
          | some pr =>
            rw [e] at hx
            obtain ⟨t, l, z, z1, z2⟩ := hq3 pr (List.mem_of_getElem? e)
            refine ⟨t, _, pr.2.yard, .ref l, (Option.some.inj hx).symm.trans z, s4 _ _ (s3 _ _ z1), ?_⟩
            rw [List.getElem?_append_left (by rw [List.length_map, lm, ← lv]; exact hi), ← hq2, List.map_map, List.getElem?_map, e]
            rfl
        · have hi2 : i = vs.length := by
            have := (List.getElem?_eq_some_iff.mp hx).1
            rw [List.length_append, List.length_singleton] at this
            omega
          rw [hi2, List.getElem?_append_right (Nat.le_refl _), Nat.sub_self] at hx
          refine ⟨p3, "", "y", .ref p0, (Option.some.inj hx).symm, s4 _ _ a3, ?_⟩
          have : (made.map (·.yard)).length = i := by rw [List.length_map, lm, ← lv, hi2]
          rw [← this, List.getElem?_append_right (Nat.le_refl _), Nat.sub_self]
          rfl
      refine lc_list (K := K) (xs := vs ++ [V.ref p3]) (fun i H' => Same H4 H' ∧ H' D4 = some (.lst (((made.map (·.yard) ++ [Str.ofString "y"]).take i).map V.str))) ⟨same_upd nD4, upd_same⟩ (fun i H' _ p => SqL.of (p.1 _ _ al3)) (fun i x H' hx p => ?_) (fun H5 pm => ?_)
      · obtain ⟨p1, p2⟩ := p
        obtain ⟨t, a0, y0, r0, rfl, z1, z2⟩ := each i x hx
        have hi : i < (made.map (·.yard) ++ [Str.ofString "y"]).length := (List.getElem?_eq_some_iff.mp z2).1
        rw [List.length_append, List.length_map, List.length_singleton] at hi
        refine ⟨rfl, _, rfl, t, _, 1, .str y0, rfl, rfl, SqT.of (p1 _ _ z1), rfl, _, p2, ?_, same_putA p1 nD4, ?_⟩
        · rw [List.length_map, List.length_take]
          exact small1000 (by omega)
        · rw [upd_same, List.take_add_one, z2, List.map_append]
          rfl
      obtain ⟨p1, p2⟩ := pm
      rw [List.length_append, List.length_singleton, lv, ← lm, List.take_of_length_le (by rw [List.length_append, List.length_map]; exact Nat.le_refl _)] at p2
      obtain ⟨y0, tl, hy0, ok0⟩ : ∃ (y0 : Str) (tl : List V), (made.map (·.yard) ++ [Str.ofString "y"]).map V.str = .str y0 :: tl ∧ PySem.PyData.strOk y0 = true := by
        cases hm : made with
        | nil => exact ⟨Str.ofString "y", [], rfl, by decide +kernel⟩
        | cons r rest =>
          refine ⟨r.yard, (rest.map (·.yard) ++ [Str.ofString "y"]).map V.str, rfl, ?_⟩
          have hz : r.yard ∈ rs.map (·.yard) := by
            rw [← r1.yd, hm]
            exact List.mem_cons_self
          obtain ⟨r9, h9, e9⟩ := List.mem_map.mp hz
          rw [← e9]
          exact (hall r9 h9).2.2.2
      rw [hy0] at p2
      have at0 : atI (V.str y0 :: tl) 0 = some (.str y0) := by
        unfold atI ixN
        rw [if_pos (by decide), if_pos (by rw [List.length_cons]; omega)]
        rfl
      have s5 : Same H1 H5 := (s3.trans s4).trans p1
      have k5 := k1.trans (Same.kp _ s5)
      refine ⟨D4, _, 0, .str y0, rfl, rfl, SqL.of p2, at0, _, rfl, pw, _, rfl, .inr ⟨SqT.of (k5 _ _ pwb hW), by show 3 ≤ sizeLine; decide, fun pt npt => ?_⟩⟩
      have s6 : Same H5 (upd H5 pt (.tup [.str "nosuch", .str y0, .ref pw])) := same_upd npt
      have e6 : upd H5 pt (.tup [.str "nosuch", .str y0, .ref pw]) pt = some (.tup [.str "nosuch", .str y0, .ref pw]) := upd_same
      generalize upd H5 pt (.tup [.str "nosuch", .str y0, .ref pw]) = H6 at s6 e6 ⊢
      have s16 := s5.trans s6
      have eD6 := s16 _ _ e1
      refine ⟨D, vs, _, rfl, rfl, eD6, by rw [lv]; exact small1000 (by omega), ?_⟩
      refine ⟨[⟨Str.ofString "nosuch", y0, want⟩], _, rfl, kp_put (k1.trans (Same.kp _ s16)) nD, (B1.same s16).off Db, upd_same, ?_, .inr ⟨y0, rfl, ok0, hlt'⟩⟩
      exact Houses.snoc ((h1.imp fun v r h => h.same s16).imp fun v r h => h.put eD6) (HouseAt.put eD6 (r := ⟨Str.ofString "nosuch", y0, want⟩) ⟨pt, pw, rfl, e6, (k1.trans (Same.kp _ s16)) _ _ pwb hW⟩)
    obtain ⟨t, vs', rfl, k2, B2, e2, h2, ht⟩ := pm
    refine ⟨_, rfl, q D (made ++ t) H2 r1.richer ⟨vs', e2, h2, ?_, ?_, fun r hr' => ?_⟩ k2 B2 nD⟩
    · rw [List.map_append, r1.nm]
      rcases ht with rfl | ⟨y0, rfl, _⟩
      · rw [List.map_nil, List.append_nil]
        exact hnd
      · refine List.nodup_append.mpr ⟨hnd, by simp, fun x hx y hy => ?_⟩
        obtain ⟨r, hr', rfl⟩ := List.mem_map.mp hx
        rw [List.map_singleton, List.mem_singleton] at hy
        rw [hy]
        exact hno r hr'
    · rw [List.length_append]
      rcases ht with rfl | ⟨y0, rfl, _, h⟩
      · show made.length + 0 ≤ 40
        omega
      · show made.length + 1 ≤ 40
        omega
    · rcases List.mem_append.mp hr' with z | z
      · obtain ⟨j, hj⟩ := List.mem_iff_getElem?.mp z
        have hj1 : j < rs.length := by
          have := (List.getElem?_eq_some_iff.mp hj).1
          omega
        obtain ⟨g1, g2, g3⟩ := r1.le j rs[j] r (List.getElem?_eq_getElem hj1) hj
        have hm := List.getElem_mem hj1
        have en : r.name = rs[j].name := by
          have := congrArg (fun l => l[j]?) r1.nm
          simp only [List.getElem?_map, List.getElem?_eq_getElem hj1, hj] at this
          exact Option.some.inj this
        have ey : r.yard = rs[j].yard := by
          have := congrArg (fun l => l[j]?) r1.yd
          simp only [List.getElem?_map, List.getElem?_eq_getElem hj1, hj] at this
          exact Option.some.inj this
        obtain ⟨a1, a2, a3, a4⟩ := hall _ hm
        exact ⟨g3, g2.trans a2, by rw [en]; exact a3, by rw [ey]; exact a4⟩
      · rcases ht with rfl | ⟨y0, rfl, hy, _⟩
        · cases z
        · rw [List.mem_singleton.mp z]
          exact ⟨hA, rfl, by show PySem.PyData.strOk (Str.ofString "nosuch") = true; decide +kernel, hy⟩
end
end My

set_option maxHeartbeats 1000000
namespace My
open PySem PySem.Spec PyProof.Rows L2 GX GxR
abbrev s_scSca : Stmt := topS 32
abbrev n_scSca : List Str := ["_law_site_here", "_law_want_here", "_law_by", "_law_great", "_law_house", "_law_yard", "_law_left_here", "_law_one"]
theorem scSca : FnScope n_scSca ["_law_site_here", "_law_want_here", "_law_by"] (defScope s_scSca) := ⟨rfl, rfl, rfl, by decide +kernel, rfl, by decide +kernel, by decide +kernel⟩
def spScaled : Sp := fun vs H Q _ => ∃ (s pw : Addr) (by' : Int) (want : List Int) (rs : List House), vs = [.ref s, .ref pw, .int by'] ∧ SiteAt want.length H s rs ∧ H pw = some (.tup (want.map V.int)) ∧ want.length ≤ 8 ∧ 1 ≤ by' ∧ by' ≤ 1000 ∧ (∀ x ∈ want, 0 ≤ x ∧ x < 1000000000) ∧ (∀ r ∈ rs, ∀ x ∈ r.left, x < 1000000000) ∧
  ∀ (t g pw' : Addr) (H' : Hp), Same H H' → H' t = some (.tup [.ref g, .ref pw']) → SiteAt want.length H' g (rs.map (scaleH by')) → H' pw' = some (.tup ((want.map (by' * ·)).map V.int)) → Q (.ref t) H'
section
variable {P : Program} {w : World} {K : PySem.W.Frag} {mg : Str → Option Value} {base : Heap}
theorem ok_scaled {f : Addr} {fd : FuncData} {k : Nat} (F : Fun K "_law_scaled" "_law_scaled" s_scSca f fd) (X : Txt mg) :
    FnOk P w K mg base CX0 (k + 1) f fd ["_law_site_here", "_law_want_here", "_law_by"] spScaled := by
  refine F.ok scSca (fun vs H Q E h => ?_) (fun cdv A outer s H vs Q E hr h => ?_)
  · obtain ⟨s, pw, by', want, rs, rfl, _⟩ := h
    rfl
  · obtain ⟨s', pw, by', want, rs, rfl, hsite, hW, h8, hb1, hb2, hw, hl, q⟩ := h
    refine ⟨_, (pss_cons (ps_setLc (i := 3) (own := [("_law_house", 4), ("_law_yard", 5), ("_law_left_here", 6)]) (g := (gTup K 3 (gCons (gName 4) (gCons (gName 5) (gCons (gName 6) gNil))))) (tt := tYes) (te := (tTup (tCons (tVar 4) (tCons (tVar 5) (tCons (tCB (rTupOf K) (tCons (tLc (iTup K (tVar 6)) (gName 7) tYes (tOp (rI CMul fun i j => .int (i * j)) (tVar 2) (tVar 7)) [7]) tNil)) tNil))))) rfl scSca.nd rfl rfl (sw_true rfl rfl rfl (by decide +kernel)) (pi_list (pv 0)) (blkOk_by (own := [("_law_house", 4), ("_law_yard", 5), ("_law_left_here", 6)]) (N := n_scSca) (sc := defScope s_scSca) (by decide +kernel)) (fun _ _ _ _ _ => (pg_tup rfl (pgs_cons (pg_name (i := 4) scSca.nd rfl (.inl rfl)) (pgs_cons (pg_name (i := 5) scSca.nd rfl (.inl rfl)) (pgs_cons (pg_name (i := 6) scSca.nd rfl (.inl rfl)) pgs_nil))))) (fun _ _ _ _ _ => pts_nil) (fun _ _ _ _ _ => (pe_tup (pa_cons (pv 4) (pa_cons (pv 5) (pa_cons (pe_callTy (r := rTupOf K) call_tuple_of (by rfl) X.tup bt_tuple (pa_cons (pe_lc (own := [("_law_one", 7)]) (g := (gName 7)) (tt := tYes) (te := (tOp (rI CMul fun i j => .int (i * j)) (tVar 2) (tVar 7))) (wi := (iTup K (tVar 6))) rfl scSca.nd (pi_tup (pv 6)) (blkOk_by (own := [("_law_one", 7)]) (by kernel_rfl)) (fun _ _ _ _ _ => (pg_name (i := 7) scSca.nd rfl (.inl rfl))) (fun _ _ _ _ _ => pts_nil) (fun _ _ _ _ _ => (pe_op op_mul (pv 2) (pv 7)))) pa_nil)) pa_nil))))))
(pss_one (ps_ret (pe_tup (pa_cons (pv 3) (pa_cons (pe_callTy call_tuple_of (by rfl) X.tup bt_tuple (pa_cons (pe_lc (own := [("_law_one", 7)]) (g := (gName 7)) (tt := tYes) rfl scSca.nd (pi_tup (pv 1)) (blkOk_by (own := [("_law_one", 7)]) (N := n_scSca) (sc := defScope s_scSca) (by decide +kernel)) (fun _ _ _ _ _ => (pg_name (i := 7) scSca.nd rfl (.inl rfl))) (fun _ _ _ _ _ => pts_nil) (fun _ _ _ _ _ => (pe_op op_mul (pv 2) (pv 7)))) pa_nil)) pa_nil)))))), ?_⟩
    obtain ⟨us, hs1, hs2, hnd, h40, hall⟩ := _root_.id hsite
    have lus : us.length = rs.length := hs2.len
    obtain ⟨hps, ps1, ps2, ps3⟩ := houses_pairs hs2
    refine ⟨_, rfl, s', rfl, ⟨_, SqL.of hs1⟩, fun D nD => ?_⟩
    refine lc_list (K := K) (xs := us) (fun i H' => Same H H' ∧ ∃ vs, H' D = some (.lst vs) ∧ Houses H' vs ((rs.take i).map (scaleH by'))) ⟨same_upd nD, [], upd_same, .nil⟩ (fun i H' _ p => SqL.of (p.1 _ _ hs1)) (fun i x H' hx p => ?_) (fun H1 pm => ?_)
    · obtain ⟨p1, vs, p2, p3⟩ := p
      obtain ⟨pr, hpr, hprx⟩ : ∃ pr, hps[i]? = some pr ∧ pr.1 = x := by
        rw [← ps1, List.getElem?_map] at hx
        cases e : hps[i]? with
        | none => rw [e] at hx; cases hx
        | some pr => rw [e] at hx; exact ⟨pr, rfl, Option.some.inj hx⟩
      have hri : rs[i]? = some pr.2 := by rw [← ps2, List.getElem?_map, hpr]; rfl
      have hmem : pr.2 ∈ rs := List.mem_of_getElem? hri
      obtain ⟨t, l, e, h1, h2⟩ := (ps3 pr (List.mem_of_getElem? hpr)).same p1
      rw [hprx] at e
      subst e
      refine ⟨t, _, rfl, SqT.of h1, rfl, _, _, rfl, _, _, rfl, _, _, rfl, rfl, rfl, ?_⟩
      have hL : ∀ x ∈ pr.2.left, 0 ≤ x ∧ x < 1000000000 := fun x hx => ⟨((hall pr.2 hmem).1 x hx).1, hl pr.2 hmem x hx⟩
      have l8 : pr.2.left.length ≤ 8 := by rw [(hall pr.2 hmem).2.1]; exact h8
      refine ⟨_, rfl, _, rfl, _, rfl, l, rfl, ⟨_, SqT.of h2⟩, fun D2 nD2 => ?_⟩
      have fD2 : H D2 = none := p1.free nD2
      refine lc_tup (K := K) (xs := pr.2.left.map V.int) (fun j H2 => Same H' H2 ∧ H2 D2 = some (.lst (((pr.2.left.take j).map (by' * ·)).map V.int))) ⟨same_upd nD2, upd_same⟩ (fun j H2 _ p => SqT.of (p.1 _ _ h2)) (fun j x H2 hx2 p => ?_) (fun H2 pm2 => ?_)
      · obtain ⟨g1, g2⟩ := p
        obtain ⟨one, ho, rfl⟩ : ∃ one, pr.2.left[j]? = some one ∧ x = .int one := by
          rw [List.getElem?_map] at hx2
          cases h : pr.2.left[j]? with
          | none => rw [h] at hx2; cases hx2
          | some one =>
            rw [h] at hx2
            exact ⟨one, rfl, (Option.some.inj hx2).symm⟩
        have hj : j < pr.2.left.length := (List.getElem?_eq_some_iff.mp ho).1
        refine ⟨rfl, _, rfl, _, rfl, by', one, rfl, rfl, .inl ⟨by omega, by omega⟩, _, g2, ?_, same_putA g1 nD2, ?_⟩
        · rw [List.length_map, List.length_map, List.length_take]
          exact small1000 (by omega)
        · rw [upd_same, List.take_add_one, ho, List.map_append, List.map_append]
          rfl
      · obtain ⟨g1, g2⟩ := pm2
        rw [List.length_map, List.take_length] at g2
        dsimp only [tNil]
        refine ⟨D2, _, rfl, .inl ⟨SqL.of g2, fun pL npL => ⟨by show 3 ≤ sizeLine; decide, fun pt npt => ?_⟩⟩⟩
        have s4 : Same H' (upd (upd H2 pL (.tup ((pr.2.left.map (by' * ·)).map V.int))) pt (.tup [.str pr.2.name, .str pr.2.yard, .ref pL])) := (g1.trans (same_upd npL)).trans (same_upd npt)
        have e1 : upd (upd H2 pL (.tup ((pr.2.left.map (by' * ·)).map V.int))) pt (.tup [.str pr.2.name, .str pr.2.yard, .ref pL]) pt = some (.tup [.str pr.2.name, .str pr.2.yard, .ref pL]) := upd_same
        have e2 : upd (upd H2 pL (.tup ((pr.2.left.map (by' * ·)).map V.int))) pt (.tup [.str pr.2.name, .str pr.2.yard, .ref pL]) pL = some (.tup ((pr.2.left.map (by' * ·)).map V.int)) := same_upd npt _ _ upd_same
        generalize upd (upd H2 pL (.tup ((pr.2.left.map (by' * ·)).map V.int))) pt (.tup [.str pr.2.name, .str pr.2.yard, .ref pL]) = H4 at s4 e1 e2 ⊢
        have e3 := s4 _ _ p2
        have hi : i < us.length := (List.getElem?_eq_some_iff.mp hx).1
        refine ⟨_, e3, ?_, same_putA (p1.trans s4) nD, _, upd_same, ?_⟩
        · rw [p3.len, List.length_map, List.length_take]
          exact small1000 (by omega)
        · rw [List.take_add_one, hri, List.map_append]
          exact Houses.snoc ((p3.imp fun v r h => (h.same s4)).imp fun v r h => h.put e3) (HouseAt.put e3 (r := scaleH by' pr.2) ⟨pt, pL, rfl, e1, e2⟩)
    obtain ⟨p1, vs, p2, p3⟩ := pm
    rw [lus, List.take_length] at p3
    refine ⟨_, rfl, _, rfl, pw, rfl, ⟨_, SqT.of (p1 _ _ hW)⟩, fun D3 nD3 => ?_⟩
    refine lc_tup (K := K) (xs := want.map V.int) (fun j H2 => Same H1 H2 ∧ H2 D3 = some (.lst (((want.take j).map (by' * ·)).map V.int))) ⟨same_upd nD3, upd_same⟩ (fun j H2 _ p => SqT.of (p.1 _ _ (p1 _ _ hW))) (fun j x H2 hx2 p => ?_) (fun H2 pm2 => ?_)
    · obtain ⟨g1, g2⟩ := p
      obtain ⟨one, ho, rfl⟩ : ∃ one, want[j]? = some one ∧ x = .int one := by
        rw [List.getElem?_map] at hx2
        cases h : want[j]? with
        | none => rw [h] at hx2; cases hx2
        | some one =>
          rw [h] at hx2
          exact ⟨one, rfl, (Option.some.inj hx2).symm⟩
      have hj : j < want.length := (List.getElem?_eq_some_iff.mp ho).1
      refine ⟨rfl, _, rfl, _, rfl, by', one, rfl, rfl, .inl ⟨by omega, by omega⟩, _, g2, ?_, same_putA g1 nD3, ?_⟩
      · rw [List.length_map, List.length_map, List.length_take]
        exact small1000 (by omega)
      · rw [upd_same, List.take_add_one, ho, List.map_append, List.map_append]
        rfl
    obtain ⟨g1, g2⟩ := pm2
    rw [List.length_map, List.take_length] at g2
    dsimp only [tNil]
    refine ⟨D3, _, rfl, .inl ⟨SqL.of g2, fun pL npL => ⟨by show 2 ≤ sizeLine; decide, fun pt npt => ?_⟩⟩⟩
    have s4 : Same H1 (upd (upd H2 pL (.tup ((want.map (by' * ·)).map V.int))) pt (.tup [.ref D, .ref pL])) := (g1.trans (same_upd npL)).trans (same_upd npt)
    refine q pt D pL _ (p1.trans s4) upd_same ⟨vs, s4 _ _ p2, p3.imp fun v r h => h.same s4, ?_, by rw [List.length_map]; exact h40, fun r hr' => ?_⟩ (same_upd npt _ _ upd_same)
    · rw [List.map_map]
      exact hnd
    · obtain ⟨r0, hr0, rfl⟩ := List.mem_map.mp hr'
      obtain ⟨a1, a2, a3, a4⟩ := hall r0 hr0
      refine ⟨fun x hx => ?_, by show (r0.left.map (by' * ·)).length = _; rw [List.length_map]; exact a2, a3, a4⟩
      obtain ⟨y, hy, rfl⟩ := List.mem_map.mp hx
      have h1 := (a1 y hy).1
      have h2 := hl r0 hr0 y hy
      have m1 : 0 ≤ by' * y := Int.mul_nonneg (by omega) h1
      have m2 : by' * y ≤ 1000 * y := Int.mul_le_mul_of_nonneg_right hb2 h1
      exact ⟨m1, by omega⟩
end
end My

set_option maxHeartbeats 1000000
/-! what placed tells, as a notion (k21) -/
namespace My
open PySem PySem.W PySem.Spec PyProof.Rows L2 GX GxR
def Ans (how : Str) (many : Int) (yd : Str → Str) (ys : List Str) (R : List (Str × Int)) (txt : Str) (ps : List (Str × Int)) : Prop :=
  (placeOf many (toFill how many yd ys R) = none ∧ txt = "none" ∧ ps = R) ∨ ∃ made, placeOf many (toFill how many yd ys R) = some made ∧ ps.Perm made ∧ sortedS (ps.map (·.1)) = true ∧ txt = "told"
def Told (H : Hp) (t : Addr) (txt : Str) (ps : List (Str × Int)) : Prop := ∃ p, H t = some (.tup [.str txt, .ref p]) ∧ PairsAt H p ps
theorem ans_uniq {how : Str} {many : Int} {yd : Str → Str} {ys : List Str} {R : List (Str × Int)} (ny : ys.Nodup) (np : (R.map (·.1)).Nodup) {t t' : Str} {ps ps' : List (Str × Int)} (h : Ans how many yd ys R t ps) (h' : Ans how many yd ys R t' ps') : t = t' ∧ ps = ps' := by
  rcases h with ⟨a1, rfl, rfl⟩ | ⟨made, a1, a2, a3, rfl⟩ <;> rcases h' with ⟨b1, rfl, rfl⟩ | ⟨made', b1, b2, b3, rfl⟩
  · exact ⟨rfl, rfl⟩
  · rw [a1] at b1
    cases b1
  · rw [a1] at b1
    cases b1
  · rw [a1] at b1
    cases b1
    exact ⟨rfl, pairs_uniq (List.Nodup.sublist (place_names a1) (toFill_nd ny np)) a2 b2 a3 b3⟩
theorem ans_of {H : Hp} {t p : Addr} {how : Str} {many : Int} {yd : Str → Str} {ys : List Str} {R : List (Str × Int)}
    (h : (placeOf many (toFill how many yd ys R) = none ∧ H t = some (.tup [.str "none", .ref p]) ∧ PairsAt H p R) ∨ (∃ made out, placeOf many (toFill how many yd ys R) = some made ∧ out.Perm made ∧ sortedS (out.map (·.1)) = true ∧ H t = some (.tup [.str "told", .ref p]) ∧ PairsAt H p out)) :
    ∃ txt ps, Told H t txt ps ∧ Ans how many yd ys R txt ps := by
  rcases h with ⟨a, b, c⟩ | ⟨made, out, a, b, c, d, e⟩
  · exact ⟨_, _, ⟨p, b, c⟩, .inl ⟨a, rfl, rfl⟩⟩
  · exact ⟨_, _, ⟨p, d, e⟩, .inr ⟨made, a, b, c, rfl⟩⟩
theorem Told.fw {Ts : List Addr} {H H' : Hp} (t : Tabs Ts H) (f : Fw Ts H H') {x : Addr} {txt : Str} {ps : List (Str × Int)} (h : Told H x txt ps) : Told H' x txt ps := by
  obtain ⟨p, a, b⟩ := h
  exact ⟨p, f.kt t _ _ a, b.fw t f⟩
theorem Told.kq {b : Addr} {c : Int} {Ts : List Addr} {H H' : Hp} (k : Kp (b :: Ts) H H') (t : Tabs Ts H) (B : BoxAt H b c) {x : Addr} {txt : Str} {ps : List (Str × Int)} (h : Told H x txt ps) : Told H' x txt ps := by
  obtain ⟨p, a, g⟩ := h
  exact ⟨p, kq_tup k t B a, g.kq k t B⟩
def toldD (txt : Str) (ps : List (Str × Int)) : PyData := .tuple [.str txt, .tuple (ps.map prD)]
theorem Told.dp {K : PySem.W.Frag} {H : Hp} {x : Addr} {txt : Str} {ps : List (Str × Int)} (h : Told H x txt ps) : Dp K H (.ref x) (toldD txt ps) := by
  obtain ⟨p, a, us, h1, h2⟩ := h
  exact .tup (SqT.of a) (.cons (.str _) (.cons (.tup (.inl h1) h2.dp) .nil))
theorem told_lay {txt : Str} {ps : List (Str × Int)} (h0 : PySem.PyData.strOk txt = true) (h : ∀ p ∈ ps, PySem.PyData.strOk p.1 = true) : PyData.canLay0 (toldD txt ps) = true := by
  show (PySem.PyData.strOk txt && (PyData.canLayAll0 (ps.map prD) && true)) = true
  rw [h0, prs_lay h]
  rfl
theorem told_sh {txt : Str} {ps : List (Str × Int)} (h0 : PySem.PyData.strOk txt = true) (h : ∀ p ∈ ps, PySem.PyData.strOk p.1 = true) : SeqAt.shaped (toldD txt ps) = true := by
  have h2 : PyData.depth (toldD txt ps) ≤ 64 := by
    have := prs_deep ps
    show max 0 (max (PyData.depthAll (ps.map prD) + 1) 0) + 1 ≤ 64
    omega
  unfold SeqAt.shaped
  rw [told_lay h0 h]
  simp [h2]
theorem ans_ok {how : Str} {many : Int} {yd : Str → Str} {ys : List Str} {R : List (Str × Int)} (ny : ys.Nodup) (np : (R.map (·.1)).Nodup) {txt : Str} {ps : List (Str × Int)} (hR : ∀ q ∈ R, PySem.PyData.strOk q.1 = true) (h : Ans how many yd ys R txt ps) :
    PySem.PyData.strOk txt = true ∧ ∀ q ∈ ps, PySem.PyData.strOk q.1 = true := by
  rcases h with ⟨a1, rfl, rfl⟩ | ⟨made, a1, a2, a3, rfl⟩
  · exact ⟨by decide +kernel, hR⟩
  · refine ⟨by decide +kernel, fun q hq => ?_⟩
    have h1 := (place_names a1).subset (List.mem_map.mpr ⟨q, a2.mem_iff.mp hq, rfl⟩)
    obtain ⟨y, hy, ey⟩ := List.mem_map.mp h1
    rw [← ey]
    exact hR y (toFill_mem y hy)
/-- the counts of a site in its order -/
theorem rows_names {most : Int} {want : List Int} {rs : List House} : (rowsC most want rs).map (·.1) = rs.map (·.name) := by
  unfold rowsC
  rw [List.map_map]
  rfl
end My

set_option maxHeartbeats 1000000
namespace My
open PySem PySem.W PySem.Spec PyProof.Rows L2 GX GxR
abbrev s_scLaw : Stmt := topS 33
abbrev n_scLaw : List Str := ["_law_script", "_law_k", "_law_box_here", "_law_want_here", "_law_site_here", "_law_how", "_law_many_here", "_law_told", "_law_turned_site", "_law_richer", "_law_great", "_law_greater", "_law_row"]
theorem scLaw : FnScope n_scLaw ["_law_script"] (defScope s_scLaw) := ⟨rfl, rfl, rfl, by decide +kernel, rfl, by decide +kernel, by decide +kernel⟩
section
variable {P : Program} {w : World} {K : PySem.W.Frag} {mg : Str → Option Value} {base : Heap}
theorem ok_law {f fB fT fN fW fS fM fC fD fZ fU fE fL fO : Addr} {fd fdB fdT fdN fdW fdS fdM fdC fdD fdZ fdU fdE fdL fdO : FuncData} {k : Nat} {Tc Ts Tt Tr : Addr} (F : Fun K "law" "law" s_scLaw f fd) (X : Txt mg)
    (GB : FnOk P w K mg base CX0 k fB fdB ["_law_script", "_law_k"] (spBox K)) (mB : mg "_law_box" = some (.ref fB)) (kB : PySem.W.keepIn K (.ref fB) = true) (bB : L2.Binds K fdB ["_law_script", "_law_k"] [])
    (GT : FnOk P w K mg base CX0 k fT fdT ["_law_box_here", "_law_many_here"] spTakeW) (mT : mg "_law_take" = some (.ref fT)) (kT : PySem.W.keepIn K (.ref fT) = true) (bT : L2.Binds K fdT ["_law_box_here", "_law_many_here"] [])
    (GN : FnOk P w K mg base CX0 k fN fdN ["_law_box_here", "_law_wares_here"] spWant) (mN : mg "_law_want" = some (.ref fN)) (kN : PySem.W.keepIn K (.ref fN) = true) (bN : L2.Binds K fdN ["_law_box_here", "_law_wares_here"] [])
    (GW : FnOk P w K mg base CX0 k fW fdW ["_law_box_here"] spWares) (mW : mg "_law_wares" = some (.ref fW)) (kW : PySem.W.keepIn K (.ref fW) = true) (bW : L2.Binds K fdW ["_law_box_here"] [])
    (GS : FnOk P w K mg base CX0 k fS fdS ["_law_box_here", "_law_want_here"] spSite) (mS : mg "_law_site" = some (.ref fS)) (kS : PySem.W.keepIn K (.ref fS) = true) (bS : L2.Binds K fdS ["_law_box_here", "_law_want_here"] [])
    (GM : FnOk P w K mg base CX0 k fM fdM ["_law_box_here", "_law_site_here", "_law_want_here", "_law_how"] spLMany) (mM : mg "_law_many" = some (.ref fM)) (kM : PySem.W.keepIn K (.ref fM) = true) (bM : L2.Binds K fdM ["_law_box_here", "_law_site_here", "_law_want_here", "_law_how"] [])
    (GC : FnOk P w K mg base CX0 k fC fdC ["_law_site_here", "_law_many_here", "_law_want_here", "_law_how"] spLCounts) (mC : mg "_law_counts" = some (.ref fC)) (kC : PySem.W.keepIn K (.ref fC) = true) (bC : L2.Binds K fdC ["_law_site_here", "_law_many_here", "_law_want_here", "_law_how"] [])
    (GD : FnOk P w K mg base CX0 k fD fdD ["site", "many", "want", "how"] (spPlaced Tc Tt)) (mD : mg "placed" = some (.ref fD)) (kD : PySem.W.keepIn K (.ref fD) = true) (bD : L2.Binds K fdD ["site", "many", "want", "how"] [])
    (GU : FnOk P w K mg base CX0 k fU fdU ["_law_box_here", "_law_site_here"] spTurned) (mU : mg "_law_turned" = some (.ref fU)) (kU : PySem.W.keepIn K (.ref fU) = true) (bU : L2.Binds K fdU ["_law_box_here", "_law_site_here"] [])
    (GE : FnOk P w K mg base CX0 k fE fdE ["_law_box_here", "_law_site_here", "_law_want_here"] spMore) (mE : mg "_law_more" = some (.ref fE)) (kE : PySem.W.keepIn K (.ref fE) = true) (bE : L2.Binds K fdE ["_law_box_here", "_law_site_here", "_law_want_here"] [])
    (GL : FnOk P w K mg base CX0 k fL fdL ["_law_site_here", "_law_want_here", "_law_by"] spScaled) (mL : mg "_law_scaled" = some (.ref fL)) (kL : PySem.W.keepIn K (.ref fL) = true) (bL : L2.Binds K fdL ["_law_site_here", "_law_want_here", "_law_by"] [])
    (GO : FnOk P w K mg base CX0 k fO fdO ["site", "many", "want", "how"] (spCounts Tc)) (mO : mg "counts_of" = some (.ref fO)) (kO : PySem.W.keepIn K (.ref fO) = true) (bO : L2.Binds K fdO ["site", "many", "want", "how"] [])
    (GZ : FnOk P w K mg base CX0 k fZ fdZ ["site", "many", "want", "how", "placing"] (spSPl Tc Ts Tt Tr)) (mZ : mg "shows_placed" = some (.ref fZ)) (kZ : PySem.W.keepIn K (.ref fZ) = true) (bZ : L2.Binds K fdZ ["site", "many", "want", "how", "placing"] []) :
    FnOk P w K mg base CX0 (k + 1) f fd ["_law_script"] (spLaw K [Tc, Ts, Tt, Tr]) := by
  refine F.ok scLaw (fun vs H Q E h => ?_) (fun cdv A outer s H vs Q E hr h => ?_)
  · obtain ⟨a, ns, rfl, _⟩ := h
    rfl
  · obtain ⟨a, ns, rfl, hS, hl, hT, q⟩ := h
    have tH : Tabs [Tc, Ts, Tt, Tr] H := hT
    have sub2 : ∀ x ∈ [Tc, Tt], x ∈ [Tc, Ts, Tt, Tr] := fun x hx => by
      rcases List.mem_cons.mp hx with rfl | hx
      · simp
      · rw [List.mem_singleton.mp hx]; simp
    refine ⟨_, (C8.pss_cut (ps_for PassesOwn.never rfl (pi_range1 (by rfl) X.range (pa_cons (pe_callB (call_max2 rfl) (by rfl) X.max (by decide +kernel) (pa_cons pe_int (pa_cons (pe_callB (call_min2 rfl) (by rfl) X.min (by decide +kernel) (pa_cons pe_int (pa_cons (pe_callB call_len_seq (by rfl) X.len PySem.boot_len (pa_cons (pv 0) pa_nil)) pa_nil))) pa_nil))) pa_nil)) (pg_name (i := 1) scLaw.nd rfl (.inl rfl))
  (pss_cons (ps_set (i := 2) scLaw.nd rfl (.inl rfl) (pe_call GB hr (by rfl) mB kB bB .nil pass0 (pa_cons (pv 0) (pa_cons (pv 1) pa_nil))))
  (pss_cons (ps_set (i := 3) scLaw.nd rfl (.inl rfl) (pe_call GN hr (by rfl) mN kN bN .nil pass0 (pa_cons (pv 2) (pa_cons (pe_call GW hr (by rfl) mW kW bW .nil pass0 (pa_cons (pv 2) pa_nil)) pa_nil))))
  (pss_cons (ps_set (i := 4) scLaw.nd rfl (.inl rfl) (pe_call GS hr (by rfl) mS kS bS .nil pass0 (pa_cons (pv 2) (pa_cons (pv 3) pa_nil))))
  (pss_cons (ps_set (i := 5) scLaw.nd rfl (.inl rfl) (pe_ix ix_list (pe_lst (pa_cons pe_str (pa_cons pe_str (pa_cons pe_str (pa_cons pe_str pa_nil))))) (pe_call GT hr (by rfl) mT kT bT .nil pass0 (pa_cons (pv 2) (pa_cons pe_int pa_nil))) (fun _ _ => rfl)))
  (pss_cons (ps_set (i := 6) scLaw.nd rfl (.inl rfl) (pe_call GM hr (by rfl) mM kM bM .nil pass0 (pa_cons (pv 2) (pa_cons (pv 4) (pa_cons (pv 3) (pa_cons (pv 5) pa_nil))))))
  (C8.pss_cut (ps_set (i := 7) scLaw.nd rfl (.inl rfl) (pe_call GD hr (by rfl) mD kD bD .nil pass0 (pa_cons (pv 4) (pa_cons (pv 6) (pa_cons (pv 3) (pa_cons (pv 5) pa_nil))))))
  (pss_cons (ps_set (i := 8) scLaw.nd rfl (.inl rfl) (pe_call GU hr (by rfl) mU kU bU .nil pass0 (pa_cons (pv 2) (pa_cons (pv 4) pa_nil))))
  (pss_cons (ps_set (i := 9) scLaw.nd rfl (.inl rfl) (pe_call GE hr (by rfl) mE kE bE .nil pass0 (pa_cons (pv 2) (pa_cons (pv 4) (pa_cons (pv 3) pa_nil)))))
  (C8.pss_cut (ps_if (pt_cmpR op_eq (pe_ix ix_tup (pv 7) pe_int (fun _ _ => rfl)) pe_str (nomark _))
    (C8.pss_cut (ps_if (pt_cmpR op_ne (pe_ix ix_tup (pe_call GD hr (by rfl) mD kD bD .nil pass0 (pa_cons (pv 9) (pa_cons (pv 6) (pa_cons (pv 3) (pa_cons (pv 5) pa_nil))))) pe_int (fun _ _ => rfl)) pe_str (nomark _))
      (pss_one (ps_ret pe_bl))
      pss_nil)
    (pss_one (ps_if (pt_cmpR op_notBl (pe_call GZ hr (by rfl) mZ kZ bZ .nil pass0 (pa_cons (pv 9) (pa_cons (pv 6) (pa_cons (pv 3) (pa_cons (pv 5) (pa_cons (pe_ix (r := rIxT K) ix_tup (pv 7) pe_int (fun _ _ => rfl)) pa_nil)))))) pe_bl (nomark _))
      (pss_one (ps_ret pe_bl))
      pss_nil)))
    pss_nil)
  (C8.pss_cut (ps_if (PW.pt (pw_or (pt_cmpR (op_neD hr.units) (pe_call GD hr (by rfl) mD kD bD .nil pass0 (pa_cons (pv 8) (pa_cons (pv 6) (pa_cons (pv 3) (pa_cons (pv 5) pa_nil))))) (pv 7) (nomark _)) (pw_or1 (pt_cmpR (op_neD hr.units) (pe_call GD hr (by rfl) mD kD bD .nil pass0 (pa_cons (pv 4) (pa_cons (pv 6) (pa_cons (pv 3) (pa_cons (pv 5) pa_nil))))) (pv 7) (nomark _)))))
    (pss_one (ps_ret pe_bl))
    pss_nil)
  (C8.pss_cut (ps_if (pt_cmpR (op_neD hr.units) (pe_call GO hr (by rfl) mO kO bO .nil pass0 (pa_cons (pv 8) (pa_cons (pv 6) (pa_cons (pv 3) (pa_cons (pv 5) pa_nil))))) (pe_call GC hr (by rfl) mC kC bC .nil pass0 (pa_cons (pv 4) (pa_cons (pv 6) (pa_cons (pv 3) (pa_cons (pv 5) pa_nil))))) (nomark _))
    (pss_one (ps_ret pe_bl))
    pss_nil)
  (pss_one (ps_if (pt_cmpR op_lt (pe_callB (cr_max rfl) (by rfl) X.max (by decide +kernel) (pa_cons (pe_op op_cat (pe_op op_cat (pe_lst (pa_cons pe_int pa_nil)) (pe_callTy call_list_of (by rfl) X.lst bt_list (pa_cons (pv 3) pa_nil))) (pe_lc (own := [("_law_row", 12)]) (g := (gName 12)) (tt := tYes) rfl scLaw.nd (pi_list (pv 4)) (blkOk_by (own := [("_law_row", 12)]) (N := n_scLaw) (sc := defScope s_scLaw) (by decide +kernel)) (fun _ _ _ _ _ => (pg_name (i := 12) scLaw.nd rfl (.inl rfl))) (fun _ _ _ _ _ => pts_nil) (fun _ _ _ _ _ => (pe_callB (r := rMaxT K) (cr_maxT rfl (hu_of hr)) (by rfl) X.max (by decide +kernel) (pa_cons (pe_ix (r := rIxT K) ix_tup (pv 12) pe_int (fun _ _ => rfl)) pa_nil))))) pa_nil)) (pe_op op_pow pe_int pe_int) (nomark _))
    (pss_cons (ps_asg (pe_call GL hr (by rfl) mL kL bL .nil pass0 (pa_cons (pv 4) (pa_cons (pv 3) (pa_cons (pe_op op_add pe_int (pe_call GT hr (by rfl) mT kT bT .nil pass0 (pa_cons (pv 2) (pa_cons pe_int pa_nil)))) pa_nil)))) (pg_tup rfl (pgs_cons (pg_name (i := 10) scLaw.nd rfl (.inl rfl)) (pgs_cons (pg_name (i := 11) scLaw.nd rfl (.inl rfl)) pgs_nil))))
    (pss_one (ps_if (pt_cmpR (op_neD hr.units) (pe_call GD hr (by rfl) mD kD bD .nil pass0 (pa_cons (pv 10) (pa_cons (pv 6) (pa_cons (pv 11) (pa_cons (pv 5) pa_nil))))) (pv 7) (nomark _))
      (pss_one (ps_ret pe_bl))
      pss_nil)))
    pss_nil))))))))))))))
(pss_one (ps_ret pe_bl))), ?_⟩
    refine ⟨fun σ H' => True, ?_, fun σ H1 _ => q H1⟩
    obtain ⟨n, hn, hn63⟩ : ∃ n : Nat, (if (if ((ns.map V.int).length : Int) < 63 then ((ns.map V.int).length : Int) else 63) > 1 then (if ((ns.map V.int).length : Int) < 63 then ((ns.map V.int).length : Int) else 63) else 1) = (n : Int) ∧ n ≤ 63 := by
      rw [List.length_map]
      by_cases h1 : (ns.length : Int) < 63
      · rw [if_pos h1]
        by_cases h2 : (ns.length : Int) > 1
        · rw [if_pos h2]; exact ⟨ns.length, rfl, hl⟩
        · rw [if_neg h2]; exact ⟨1, rfl, by decide⟩
      · rw [if_neg h1, if_pos (by decide)]
        exact ⟨63, rfl, by decide⟩
    refine ⟨_, rfl, a, _, rfl, .inl hS, 63, _, rfl, 1, _, rfl, (n : Int), congrArg (fun z => [V.int z]) hn, by omega, by omega, ?_⟩
    rw [Int.toNat_natCast]
    refine for_range (lo := 0) (n := n) (fun i σ H' => ∃ (y1 y2 y3 y4 y5 y6 y7 y8 y9 y10 y11 y12 : Option V), σ = [some (.ref a), y1, y2, y3, y4, y5, y6, y7, y8, y9, y10, y11, y12] ∧ Fw [Tc, Ts, Tt, Tr] H H')
      ⟨none, none, none, none, none, none, none, none, none, none, none, none, rfl, Fw.refl tH⟩ (fun i σ H1 hi p => ?_) (fun σ H1 p => trivial)
    obtain ⟨y1, y2, y3, y4, y5, y6, y7, y8, y9, y10, y11, y12, rfl, f1⟩ := p
    refine ⟨_, rfl, _, rfl, a, ns, i, by rw [Int.zero_add]; rfl, f1.seqL tH hS, by omega, fun b xs nb bv => ?_⟩
    have fb : H b = none := f1.free tH nb
    have B2 : BoxAt (upd H1 b (.lst xs)) b 0 := ⟨xs, upd_same, bv⟩
    have f2 := f1.then (same_upd (o := .lst xs) nb)
    generalize upd H1 b (.lst xs) = H2 at B2 f2 ⊢
    refine ⟨_, rfl, _, rfl, b, 0, rfl, B2, by decide, fun n1 H3 w1 w8 k3 B3 => ?_⟩
    obtain ⟨kw, rfl⟩ : ∃ m : Nat, n1 = (m : Int) := ⟨n1.toNat, by omega⟩
    refine ⟨b, _, kw, rfl, B3, by decide, by omega, by omega, fun pw want H4 hAw hnz lw k4 B4 npw ew => ?_⟩
    have f4 := f2.box tH fb (k3.trans k4)
    have h8 : want.length ≤ 8 := by omega
    refine ⟨_, rfl, _, rfl, b, pw, _, want, rfl, B4, by decide, ew, hAw, h8, fun sp rs H5 hsite k5 B5 nsp hne => ?_⟩
    have f5 := f4.box tH fb k5
    have pwb : pw ∉ [b] := fun z => by
      obtain ⟨xs, h1, _⟩ := B4
      rw [List.mem_singleton.mp z, h1] at ew
      cases ew
    have spb : sp ≠ b := nb_of B4 nsp
    have ew5 := k5 _ _ pwb ew
    obtain ⟨_, _, _, hnd, h40, hall⟩ := _root_.id hsite
    have t5 := f5.tabs
    have bIn : ∀ {x : Addr}, x ∈ [b] → x ∈ b :: [Tc, Ts, Tt, Tr] := fun {x} hx => by rw [List.mem_singleton.mp hx]; exact List.mem_cons_self
    have tIn : ∀ {x : Addr}, x ∈ [Tc, Ts, Tt, Tr] → x ∈ b :: [Tc, Ts, Tt, Tr] := fun {x} hx => List.mem_cons_of_mem _ hx
    -- how
    refine ⟨by show 4 ≤ sizeLine; decide, fun l4 n4 => ?_⟩
    refine ⟨_, rfl, b, _, 4, rfl, B5.same (same_upd n4), by decide, by decide, by decide, fun u1 H6 u10 u11 k6 B6 => ?_⟩
    obtain ⟨how, hx, hmem⟩ : ∃ how : Str, atI [V.str "any", .str "apart", .str "near", .str "wide"] u1 = some (.str how) ∧ how ∈ Hows := by
      have h4 : u1 = 0 ∨ u1 = 1 ∨ u1 = 2 ∨ u1 = 3 := by omega
      rcases h4 with z | z | z | z <;> rw [z]
      · exact ⟨"any", rfl, by simp [Hows]⟩
      · exact ⟨"apart", rfl, by simp [Hows]⟩
      · exact ⟨"near", rfl, by simp [Hows]⟩
      · exact ⟨"wide", rfl, by simp [Hows]⟩
    refine ⟨l4, _, u1, .str how, rfl, rfl, SqL.of (k6 _ _ (box_new B5 n4) upd_same), hx, ?_⟩
    have k56 : Kp [b] H5 H6 := (kp_new (Kp.refl _ _) n4).trans k6
    have g6 : Kp (b :: [Tc, Ts, Tt, Tr]) H5 H6 := k56.mono fun x hx => bIn hx
    have f6 := f5.box tH fb k56
    refine ⟨_, rfl, _, rfl, _, rfl, _, rfl, b, sp, pw, _, how, want, rs, rfl, B6, by decide, hsite.kq g6 t5 B5 spb, kq_tup g6 t5 B5 ew5, hAw, hnz, h8, hmem, fun many H7 m1 m60 k7 B7 => ?_⟩
    have g7 := g6.trans (k7.mono fun x hx => bIn hx)
    have f7 := f6.box tH fb k7
    have t7 := f7.tabs
    have hc7 : ∃ c7 : Int, BoxAt H7 b c7 ∧ c7 ≤ 100000 := ⟨_, B7, by decide⟩
    clear B7
    obtain ⟨c7, B7, hc7⟩ := hc7
    have site7 := hsite.kq g7 t5 B5 spb
    have ew7 := kq_tup g7 t5 B5 ew5
    clear g7 k7 B6 f6 g6 k56
    have posw : ∃ n ∈ want, 0 < n := by
      obtain ⟨n, hn, nz⟩ := hnz
      exact ⟨n, hn, by have := (hAw n hn).1; omega⟩
    have cb : ∀ most : Int, 0 ≤ most → ∀ (xs : List House), (∀ r ∈ xs, Amt r.left ∧ r.left.length = want.length) → ∀ r ∈ xs, 0 ≤ cnt most want r.left ∧ cnt most want r.left ≤ most := fun most mo1 xs hxs r hr' => by
      obtain ⟨al, ll⟩ := hxs r hr'
      obtain ⟨a1, _⟩ := least_mem (quots_ne want r.left ll.symm posw)
      have := quots_nn want r.left (fun y hy => (al y hy).1) _ a1
      unfold cnt
      split <;> constructor <;> omega
    have mo : 0 ≤ mostOf how many := by
      unfold mostOf
      split <;> omega
    have moW : how = Str.ofString "wide" → mostOf how many = 1 := fun hw => by rw [hw]; rfl
    -- what placed tells
    refine ⟨fun σ H' => ∃ (yk : Option V) (td : Addr) (txt : Str) (ps : List (Str × Int)) (rs0 : List House) (ys : List Str), σ = [some (.ref a), yk, some (.ref b), some (.ref pw), some (.ref sp), some (.str how), some (.int many), some (.ref td), y8, y9, y10, y11, y12] ∧ Fw [Tc, Ts, Tt, Tr] H7 H' ∧ Told H' td txt ps ∧ rs0.Perm rs ∧ sortedS (rs0.map (·.name)) = true ∧ YsOf (rs.map (·.yard)) ys ∧ Ans how many (ydOf rs) ys (rowsC (mostOf how many) want rs0) txt ps, ?_, fun σ H8 pm => ?_⟩
    · refine ⟨_, rfl, _, rfl, _, rfl, _, rfl, sp, pw, many, how, want, rs, rfl, site7, ew7, hAw, hnz, h8, m1, by omega, fun T hT' => t7 T (sub2 T hT'), fun td p rs' ys' H8 rp' so' hys' f8 ntd ans => ?_⟩
      obtain ⟨txt, ps, ht, ha⟩ := ans_of ans
      exact ⟨some (.int (0 + (i : Int))), td, txt, ps, rs', ys', rfl, f8.sub t7 sub2, ht, rp', so', hys', ha⟩
    obtain ⟨yk, td, txt, ps, rs0, ys, rfl, f78, htd, rpp, rso, hys, hans⟩ := pm
    have f8 := f7.trans f78
    have t8 := f8.tabs
    have B8 := B7.fw t7 f78
    have site8 := site7.fw t7 f78
    have ew8 := f78.kt t7 _ _ ew7
    have nd0 : (rs0.map (·.name)).Nodup := (rpp.map _).nodup_iff.mpr hnd
    obtain ⟨R, hR⟩ : ∃ R, rowsC (mostOf how many) want rs0 = R := ⟨_, rfl⟩
    rw [hR] at hans
    have np : (R.map (·.1)).Nodup := by rw [← hR, rows_names]; exact nd0
    have okR : ∀ x ∈ R, PySem.PyData.strOk x.1 = true := by
      rw [← hR]
      exact rows_ok fun r hr' => (hall r (rpp.mem_iff.mp hr')).2.2.1
    obtain ⟨okt, okp⟩ := ans_ok hys.nd np okR hans
    -- the site turned, and a richer one
    refine ⟨_, rfl, _, rfl, b, sp, c7, want.length, rs, rfl, B8, by omega, site8, spb, fun tp rsT H9 permT siteT k9 B9 ntp => ?_⟩
    have tpb : tp ≠ b := nb_of B8 ntp
    have t9k : Kp (b :: [Tc, Ts, Tt, Tr]) H8 H9 := k9.mono fun x hx => bIn hx
    refine ⟨_, rfl, _, rfl, _, rfl, b, sp, pw, _, want, rs, rfl, B9, by omega, site8.kq t9k t8 B8 spb, spb, kq_tup t9k t8 B8 ew8, hAw, h8, hne, fun rp rsR H10 rich siteR k10 B10 nrp => ?_⟩
    have rpb : rp ≠ b := nb_of B9 nrp
    have k910 := k9.trans k10
    have g10 : Kp (b :: [Tc, Ts, Tt, Tr]) H8 H10 := k910.mono fun x hx => bIn hx
    have f10 := f8.box tH fb k910
    have t10 := f10.tabs
    have site10 := site8.kq g10 t8 B8 spb
    have ew10 := kq_tup g10 t8 B8 ew8
    have htd10 := htd.kq g10 t8 B8
    have siteT10 : SiteAt want.length H10 tp rsT := siteT.kq (k10.mono fun x hx => bIn hx) ((f8.box tH fb k9).tabs) B9 tpb
    obtain ⟨c10, B10', hc10⟩ : ∃ c10 : Int, BoxAt H10 b c10 ∧ c10 ≤ 200000 := ⟨_, B10, by omega⟩
    obtain ⟨_, _, _, hndR, h40R, hallR⟩ := _root_.id siteR
    obtain ⟨_, _, _, hndT, h40T, hallT⟩ := _root_.id siteT10
    clear B10 t9k
    -- the richer one
    refine ⟨fun σ H' => σ = [some (.ref a), yk, some (.ref b), some (.ref pw), some (.ref sp), some (.str how), some (.int many), some (.ref td), some (.ref tp), some (.ref rp), y10, y11, y12] ∧ Fw [Tc, Ts, Tt, Tr] H10 H', ?_, fun σ H11 pm => ?_⟩
    · obtain ⟨p, etd, hps⟩ := _root_.id htd10
      refine ⟨_, rfl, td, _, 0, .str txt, rfl, rfl, SqT.of etd, rfl, rfl, _, rfl, ?_⟩
      rcases _root_.id hans with ⟨a1, rfl, rfl⟩ | ⟨made, a1, a2, a3, rfl⟩
      · exact iteF ⟨rfl, Fw.refl t10⟩
      · have pk := place_ok a1 hys.nd np
        have hpl : IsPl how many (ydOf rs) R ps := told_pl (by omega) hys.nd np a1 a2 a3
        have hplR : ∀ rs2 : List House, rs2.Perm rsR → IsPl how many (ydOf rsR) (rowsC (mostOf how many) want rs2) ps := fun rs2 p2 => by
          rw [← hR] at hpl
          exact richer_pl (fun x hx => (hAw x hx).1) posw (fun r hr' => ⟨fun y hy => ((hall r hr').1 y hy).1, (hall r hr').2.1⟩) (fun r hr' y hy => ((hallR r hr').1 y hy).1) hnd hndR rich rpp p2 hpl
        have l58 : ps.length ≤ 58 := by
          have h1 := a2.length_eq
          have h2 := pk.2
          have h3 : R.length = rs0.length := by rw [← hR]; unfold rowsC; rw [List.length_map]
          have h4 := rpp.length_eq
          omega
        refine iteT ⟨fun σ H' => σ = [some (.ref a), yk, some (.ref b), some (.ref pw), some (.ref sp), some (.str how), some (.int many), some (.ref td), some (.ref tp), some (.ref rp), y10, y11, y12] ∧ Fw [Tc, Ts, Tt, Tr] H10 H', ?_, fun σ H11 pm => ?_⟩
        · refine ⟨_, rfl, _, rfl, _, rfl, _, rfl, rp, pw, many, how, want, rsR, rfl, siteR, ew10, hAw, hnz, h8, m1, by omega, fun T hT' => t10 T (sub2 T hT'), fun td2 p2 rs2 ys2 H11 rp2 so2 hys2 f11 ntd2 ans2 => ?_⟩
          rcases ans2 with ⟨z1, _, _⟩ | ⟨made2, out2, z1, z2, z3, z4, z5⟩
          · refine absurd (hplR rs2 rp2) (none_pl m1 (fun q hq => ?_) (fun hw q hq => ?_) (fun q hq => ?_) z1 ps)
            · obtain ⟨r, hr', rfl⟩ := List.mem_map.mp hq
              exact (cb _ mo rsR (fun r hr' => ⟨(hallR r hr').1, (hallR r hr').2.1⟩) r (rp2.mem_iff.mp hr')).1
            · obtain ⟨r, hr', rfl⟩ := List.mem_map.mp hq
              have := (cb _ mo rsR (fun r hr' => ⟨(hallR r hr').1, (hallR r hr').2.1⟩) r (rp2.mem_iff.mp hr')).2
              rw [moW hw] at this ⊢
              exact this
            · obtain ⟨r, hr', rfl⟩ := List.mem_map.mp hq
              rw [ydOf_is hndR (rp2.mem_iff.mp hr')]
              exact (hys2.mem _).mpr (List.mem_map.mpr ⟨r, rp2.mem_iff.mp hr', rfl⟩)
          · exact ⟨td2, _, 0, .str "told", rfl, rfl, SqT.of z4, rfl, rfl, _, rfl, iteF ⟨rfl, f11.sub t10 sub2⟩⟩
        obtain ⟨rfl, f11⟩ := pm
        have t11 := f11.tabs
        refine ⟨_, rfl, _, rfl, _, rfl, _, rfl, _, rfl, td, _, 1, .ref p, rfl, rfl, SqT.of (f11.kt t10 _ _ etd), rfl, rp, pw, p, many, how, want, rsR, ps, rfl, siteR.fw t10 f11, f11.kt t10 _ _ ew10, hAw, hnz, h8, m1, hps.fw t10 f11, l58, fun q hq => ?_, t11, fun rs' H12 rp' so' f12 => ?_⟩
        · have := pk.1 q (a2.mem_iff.mp hq)
          exact ⟨by omega, by omega⟩
        · have e1 : isPl how many rsR (kvsC (mostOf how many) want rs') ps = true := by
            rw [pl_iff ((rp'.map _).nodup_iff.mpr hndR)]
            exact hplR rs' rp'
          rw [e1]
          exact ⟨true, true, rfl, rfl, _, rfl, iteF ⟨rfl, f11.trans f12⟩⟩
    obtain ⟨rfl, f11⟩ := pm
    have t11 := f11.tabs
    have ydT : ydOf rsT = ydOf rs := ydOf_perm hnd permT
    -- the same told
    refine ⟨fun σ H' => σ = [some (.ref a), yk, some (.ref b), some (.ref pw), some (.ref sp), some (.str how), some (.int many), some (.ref td), some (.ref tp), some (.ref rp), y10, y11, y12] ∧ Fw [Tc, Ts, Tt, Tr] H10 H', ?_, fun σ H12 pm => ?_⟩
    · refine ⟨_, rfl, _, rfl, _, rfl, _, rfl, tp, pw, many, how, want, rsT, rfl, siteT10.fw t10 f11, f11.kt t10 _ _ ew10, hAw, hnz, h8, m1, by omega, fun T hT' => t11 T (sub2 T hT'), fun td2 p2 rs2 ys2 H12 rp2 so2 hys2 f12 ntd2 ans2 => ?_⟩
      obtain ⟨txt2, ps2, ht2, ha2⟩ := ans_of ans2
      have e1 := houses_uniq hnd (rp2.trans permT) rpp so2 rso
      subst e1
      have e2 := hys2.uniq hys fun y => (permT.map _).mem_iff
      subst e2
      rw [hR, ydT] at ha2
      obtain ⟨rfl, rfl⟩ := ans_uniq hys.nd np ha2 hans
      have f12' := f12.sub t11 sub2
      have f1012 := f11.trans f12'
      have t12 := f1012.tabs
      refine ⟨_, rfl, _, _, ht2.dp, (htd10.fw t10 f1012).dp, told_sh okt okp, told_sh okt okp, _, rfl, ?_⟩
      rw [PySem.SeqAt.eqv_refl _ (told_lay okt okp)]
      refine iteF ⟨_, rfl, _, rfl, _, rfl, _, rfl, sp, pw, many, how, want, rs, rfl, site10.fw t10 f1012, f1012.kt t10 _ _ ew10, hAw, hnz, h8, m1, by omega, fun T hT' => t12 T (sub2 T hT'), fun td3 p3 rs3 ys3 H13 rp3 so3 hys3 f13 ntd3 ans3 => ?_⟩
      obtain ⟨txt3, ps3, ht3, ha3⟩ := ans_of ans3
      have e1 := houses_uniq hnd rp3 rpp so3 rso
      subst e1
      have e2 := hys3.uniq hys fun y => Iff.rfl
      subst e2
      rw [hR] at ha3
      obtain ⟨rfl, rfl⟩ := ans_uniq hys.nd np ha3 hans
      have f1013 := f1012.trans (f13.sub t12 sub2)
      refine ⟨_, rfl, _, _, ht3.dp, (htd10.fw t10 f1013).dp, told_sh okt okp, told_sh okt okp, _, rfl, ?_⟩
      rw [PySem.SeqAt.eqv_refl _ (told_lay okt okp)]
      exact iteF ⟨rfl, f1013⟩
    obtain ⟨rfl, f12⟩ := pm
    have t12 := f12.tabs
    -- the counts
    refine ⟨fun σ H' => σ = [some (.ref a), yk, some (.ref b), some (.ref pw), some (.ref sp), some (.str how), some (.int many), some (.ref td), some (.ref tp), some (.ref rp), y10, y11, y12] ∧ Fw [Tc, Ts, Tt, Tr] H10 H', ?_, fun σ H13 pm => ?_⟩
    · refine ⟨_, rfl, _, rfl, _, rfl, _, rfl, tp, pw, many, how, want, rsT, rfl, siteT10.fw t10 f12, f12.kt t10 _ _ ew10, hAw, hnz, h8, m1, t12 Tc (by simp), fun p2 rs2 H13 rp2 so2 tg2 k13 np2 hp2 => ?_⟩
      have f13 : Fw [Tc, Ts, Tt, Tr] H12 H13 := Fw.step t12 (by simp) k13 tg2
      have f1013 := f12.trans f13
      refine ⟨_, rfl, _, rfl, _, rfl, _, rfl, sp, pw, many, how, want, rs, rfl, site10.fw t10 f1013, f1013.kt t10 _ _ ew10, hAw, hnz, h8, m1, by omega, hmem, fun p3 rs3 H14 rp3 so3 s14 np3 hp3 => ?_⟩
      have e1 := houses_uniq hnd (rp2.trans permT) rpp so2 rso
      have e2 := houses_uniq hnd rp3 rpp so3 rso
      subst e1
      subst e2
      rw [hR] at hp2 hp3
      obtain ⟨us2, h21, h22⟩ := (hp2.same s14).at
      obtain ⟨us3, h31, h32⟩ := hp3.at
      refine ⟨_, _, .tup (.inl h21) h22.dp, .tup (.inl h31) h32.dp, prs_sh okR, prs_sh okR, _, rfl, ?_⟩
      rw [PySem.SeqAt.eqv_refl _ (show PyData.canLay0 (.tuple (R.map prD)) = true from prs_lay okR)]
      exact iteF ⟨rfl, f1013.then s14⟩
    obtain ⟨rfl, f13⟩ := pm
    have t13 := f13.tabs
    have site13 := site10.fw t10 f13
    have ew13 := f13.kt t10 _ _ ew10
    have htd13 := htd10.fw t10 f13
    have B13 := B10'.fw t10 f13
    obtain ⟨us, hs1, hs2, _, _, _⟩ := _root_.id site13
    have lus : us.length = rs.length := hs2.len
    obtain ⟨hps, ps1, ps2, ps3⟩ := houses_pairs hs2
    -- the greatest number
    refine ⟨by show 1 ≤ sizeLine; decide, fun l0 n0 => ⟨_, rfl, pw, _, rfl, .inr (SqT.of (same_upd n0 _ _ ew13)), fun l1 n1 => ?_⟩⟩
    refine ⟨l0, l1, _, _, rfl, rfl, same_upd n1 _ _ upd_same, upd_same, ?_, fun l2 n2 => ?_⟩
    · rw [List.length_map]
      exact Nat.le_of_lt (small1000 (by simp only [List.length_cons, List.length_nil]; omega))
    have s14 : Same H13 (upd (upd (upd H13 l0 (.lst [.int 0])) l1 (.lst (want.map V.int))) l2 (.lst ([V.int 0] ++ want.map V.int))) := ((same_upd n0).trans (same_upd n1)).trans (same_upd n2)
    have e14 : upd (upd (upd H13 l0 (.lst [.int 0])) l1 (.lst (want.map V.int))) l2 (.lst ([V.int 0] ++ want.map V.int)) l2 = some (.lst ([V.int 0] ++ want.map V.int)) := upd_same
    generalize upd (upd (upd H13 l0 (.lst [.int 0])) l1 (.lst (want.map V.int))) l2 (.lst ([V.int 0] ++ want.map V.int)) = H14 at s14 e14 ⊢
    refine ⟨_, rfl, sp, rfl, ⟨_, SqL.of (s14 _ _ hs1)⟩, fun D nD => ?_⟩
    refine lc_list (K := K) (xs := us) (fun j H' => Same H14 H' ∧ ∃ ms : List Int, H' D = some (.lst (ms.map V.int)) ∧ ms.length = j ∧ ∀ r ∈ rs.take j, ∃ m ∈ ms, ∀ x ∈ r.left, x ≤ m) ⟨same_upd nD, [], upd_same, rfl, fun r hr' => by simp at hr'⟩ (fun j H' _ p => SqL.of (p.1 _ _ (s14 _ _ hs1))) (fun j x H' hx p => ?_) (fun H15 pm => ?_)
    · obtain ⟨p1, ms, p2, p3, p4⟩ := p
      have hj : j < us.length := (List.getElem?_eq_some_iff.mp hx).1
      obtain ⟨pr, hpr, hprx⟩ : ∃ pr, hps[j]? = some pr ∧ pr.1 = x := by
        rw [← ps1, List.getElem?_map] at hx
        cases e : hps[j]? with
        | none => rw [e] at hx; cases hx
        | some pr => rw [e] at hx; exact ⟨pr, rfl, Option.some.inj hx⟩
      have hri : rs[j]? = some pr.2 := by rw [← ps2, List.getElem?_map, hpr]; rfl
      obtain ⟨t, l, e, z1, z2⟩ := (ps3 pr (List.mem_of_getElem? hpr)).same (s14.trans p1)
      rw [hprx] at e
      subst e
      have ll : pr.2.left.length = want.length := (hall pr.2 (List.mem_of_getElem? hri)).2.1
      have lw0 : 0 < want.length := by
        obtain ⟨n, hn, _⟩ := hnz
        exact List.length_pos_of_mem hn
      refine ⟨rfl, _, rfl, t, _, 2, .ref l, rfl, rfl, SqT.of z1, rfl, l, pr.2.left, rfl, SqT.of z2, by omega, fun m hm1 hm2 => ⟨_, p2, ?_, same_putA p1 nD, ms ++ [m], ?_, ?_, fun r hr' => ?_⟩⟩
      · rw [List.length_map, p3]
        exact small1000 (by omega)
      · rw [upd_same, List.map_append]
        rfl
      · rw [List.length_append, p3]
        rfl
      · rw [List.take_add_one, hri] at hr'
        rcases List.mem_append.mp hr' with z | z
        · obtain ⟨m', g1, g2⟩ := p4 r z
          exact ⟨m', List.mem_append_left _ g1, g2⟩
        · have z' : r = pr.2 := by simpa using z
          rw [z']
          exact ⟨m, by simp, hm2⟩
    obtain ⟨p1, ms, p2, p3, p4⟩ := pm
    rw [lus, List.take_length] at p4
    refine ⟨l2, D, _, _, rfl, rfl, p1 _ _ e14, p2, ?_, fun l3 n3 => ?_⟩
    · rw [List.length_append, List.length_map, List.length_map, p3]
      exact Nat.le_of_lt (small1000 (by simp only [List.length_cons, List.length_nil]; omega))
    have s16 : Same H13 (upd H15 l3 (.lst (([V.int 0] ++ want.map V.int) ++ ms.map V.int))) := (s14.trans p1).trans (same_upd n3)
    have e16 : upd H15 l3 (.lst (([V.int 0] ++ want.map V.int) ++ ms.map V.int)) l3 = some (.lst (([0] ++ want ++ ms).map V.int)) := by
      rw [upd_same, List.map_append, List.map_append]
      rfl
    generalize upd H15 l3 (.lst (([V.int 0] ++ want.map V.int) ++ ms.map V.int)) = H16 at s16 e16 ⊢
    dsimp only [tNil]
    refine ⟨l3, [0] ++ want ++ ms, rfl, SqL.of e16, by simp, fun m hm1 hm2 => ⟨10, 9, rfl, rfl, ⟨by decide, by decide, by decide⟩, _, _, rfl, rfl, _, rfl, ite2 (fun hlt => ?_) (fun _ => ?_)⟩⟩
    · have hlt' : m < 1000000000 := of_decide_eq_true hlt
      have w9 : ∀ x ∈ want, 0 ≤ x ∧ x < 1000000000 := fun x hx => ⟨(hAw x hx).1, by have := hm2 x (List.mem_append_left _ (List.mem_append_right _ hx)); omega⟩
      have l9 : ∀ r ∈ rs, ∀ x ∈ r.left, x < 1000000000 := fun r hr' x hx => by
        obtain ⟨m', g1, g2⟩ := p4 r hr'
        have := hm2 m' (List.mem_append_right _ g1)
        have := g2 x hx
        omega
      have site16 := site13.same s16
      have B16 := B13.same s16
      have ew16 := s16 _ _ ew13
      have htd16 : Told H16 td txt ps := htd13.fw t13 (Fw.same t13 s16)
      have f16 := f13.then s16
      have t16 := f16.tabs
      refine ⟨_, rfl, _, rfl, _, rfl, b, c10, 999, rfl, B16, by decide, by decide, by omega, fun u H17 u0 u1 k17 B17 => ⟨1, u, rfl, rfl, ?_⟩⟩
      have q17 : Kp (b :: [Tc, Ts, Tt, Tr]) H16 H17 := k17.mono fun x hx => bIn hx
      have fH16 := f10.trans f16
      have f17 := fH16.box tH fb k17
      have t17 := f17.tabs
      refine ⟨sp, pw, 1 + u, want, rs, rfl, site16.kq q17 t16 B16 spb, kq_tup q17 t16 B16 ew16, h8, by omega, by omega, w9, l9, fun t g pw' H18 s18 et siteG epw => ?_⟩
      have f18 := f17.then s18
      have t18 := f18.tabs
      refine ⟨t, _, rfl, SqT.of et, rfl, _, _, rfl, _, _, rfl, rfl, ?_⟩
      have posB : 0 < 1 + u := by omega
      have hAw' : Amt (want.map ((1 + u) * ·)) := fun x hx => by
        obtain ⟨y, hy, rfl⟩ := List.mem_map.mp hx
        obtain ⟨y0, y1⟩ := w9 y hy
        have m1' : 0 ≤ (1 + u) * y := Int.mul_nonneg (by omega) y0
        have m2' : (1 + u) * y ≤ 1000 * y := Int.mul_le_mul_of_nonneg_right (by omega) y0
        exact ⟨m1', by omega⟩
      refine ⟨_, rfl, _, rfl, _, rfl, _, rfl, g, pw', many, how, want.map ((1 + u) * ·), rs.map (scaleH (1 + u)), rfl, by rw [List.length_map]; exact siteG, epw, hAw', ?_, by rw [List.length_map]; exact h8, m1, by omega, fun T hT' => t18 T (sub2 T hT'), fun td3 p3 rs3 ys3 H19 rp3 so3 hys3 f19 ntd3 ans3 => ?_⟩
      · obtain ⟨n, hn, nz⟩ := posw
        have := Int.mul_pos posB nz
        exact ⟨(1 + u) * n, List.mem_map.mpr ⟨n, hn, rfl⟩, by omega⟩
      obtain ⟨txt3, ps3, ht3, ha3⟩ := ans_of ans3
      have nmS : ∀ zs : List House, (zs.map (scaleH (1 + u))).map (·.name) = zs.map (·.name) := fun zs => by
        rw [List.map_map]
        rfl
      have e1 : rs3 = rs0.map (scaleH (1 + u)) := houses_uniq (by rw [nmS]; exact hnd) rp3 (rpp.map _) so3 (by rw [nmS]; exact rso)
      subst e1
      have ydS : ydOf (rs.map (scaleH (1 + u))) = ydOf rs := ydOf_eq hnd (by rw [nmS]; exact hnd) (fun r hr' => ⟨_, List.mem_map.mpr ⟨r, hr', rfl⟩, rfl, rfl⟩) fun r hr' => by
        obtain ⟨r0, hr0, rfl⟩ := List.mem_map.mp hr'
        exact ⟨r0, hr0, rfl⟩
      have e2 := hys3.uniq hys fun y => by
        rw [List.map_map]
        exact Iff.rfl
      subst e2
      rw [rows_scale posB, hR, ydS] at ha3
      obtain ⟨rfl, rfl⟩ := ans_uniq hys.nd np ha3 hans
      have f1819 := f19.sub t18 sub2
      have htd19 : Told H19 td txt3 ps3 := ((htd16.kq q17 t16 B16).fw t17 (Fw.same t17 s18)).fw t18 f1819
      refine ⟨_, rfl, _, _, ht3.dp, htd19.dp, told_sh okt okp, told_sh okt okp, _, rfl, ?_⟩
      rw [PySem.SeqAt.eqv_refl _ (told_lay okt okp)]
      exact iteF ⟨_, _, _, _, _, _, _, _, _, _, _, _, rfl, f18.trans f1819⟩
    · exact ⟨_, _, _, _, _, _, _, _, _, _, _, _, rfl, (f10.trans f13).then s16⟩

end
end My

namespace My
open PySem PySem.Spec PyProof.Rows L2 GX GxR
set_option maxHeartbeats 8000000 in
theorem all_mk {l : PySem.W.OpenLaw} {q : Program} {loose : List Str} {mean : ExcName → Option Value} {w : World} {K : PySem.W.Frag} {h : Heap} {mg mb : Str → Option Value} {fa f1 f2 f3 f4 f5 f6 f7 f8 f9 f10 f11 f12 f13 f14 f15 f16 f17 f18 f19 f20 f21 f22 f23 f24 f25 f26 f27 f28 c2 T2 c4 T4 c5 T5 c6 T6 : Addr} (X : K.In h) (Z : PyProof.Rows.Top q loose mean mg mb h) (hfa : mg "law" = some (.ref fa))
    {od1 an1 od2 an2 od3 an3 od4 an4 od5 an5 od6 an6 od7 an7 od8 an8 od9 an9 od10 an10 od11 an11 od12 an12 od13 an13 od14 an14 od15 an15 od16 an16 od17 an17 od18 an18 od19 an19 od20 an20 od21 an21 od22 an22 od23 an23 od24 an24 od25 an25 od26 an26 od27 an27 od28 an28 : Option Addr} {sl1 sl2 sl3 sl4 sl5 sl6 sl7 sl8 sl9 sl10 sl11 sl12 sl13 sl14 sl15 sl16 sl17 sl18 sl19 sl20 sl21 sl22 sl23 sl24 sl25 sl26 sl27 sl28 : Array (Option Value)} {oc1 kV1 dc1 pm1 ct1 oc2 kV2 dc2 pm2 ct2 oc3 kV3 dc3 pm3 ct3 oc4 kV4 dc4 pm4 ct4 oc5 kV5 dc5 pm5 ct5 oc6 kV6 dc6 pm6 ct6 oc7 kV7 dc7 pm7 ct7 oc8 kV8 dc8 pm8 ct8 oc9 kV9 dc9 pm9 ct9 oc10 kV10 dc10 pm10 ct10 oc11 kV11 dc11 pm11 ct11 oc12 kV12 dc12 pm12 ct12 oc13 kV13 dc13 pm13 ct13 oc14 kV14 dc14 pm14 ct14 oc15 kV15 dc15 pm15 ct15 oc16 kV16 dc16 pm16 ct16 oc17 kV17 dc17 pm17 ct17 oc18 kV18 dc18 pm18 ct18 oc19 kV19 dc19 pm19 ct19 oc20 kV20 dc20 pm20 ct20 oc21 kV21 dc21 pm21 ct21 oc22 kV22 dc22 pm22 ct22 oc23 kV23 dc23 pm23 ct23 oc24 kV24 dc24 pm24 ct24 oc25 kV25 dc25 pm25 ct25 oc26 kV26 dc26 pm26 ct26 oc27 kV27 dc27 pm27 ct27 oc28 kV28 dc28 pm28 ct28 cd1 cd3 cd7 cd8 cd9 cd10 cd11 cd12 cd13 cd14 cd15 cd16 cd17 cd18 cd19 cd20 cd21 cd22 cd23 cd24 cd25 cd26 cd27 cd28 : Value} {tk1 : Tok} {tk2 : Tok} {tk3 : Tok} {ec2 : Value} {ed2 : Option Addr} {vs2 : Array Value} {es2 : Array (Option Value)} {ec4 : Value} {ed4 : Option Addr} {vs4 : Array Value} {es4 : Array (Option Value)} {ec5 : Value} {ed5 : Option Addr} {vs5 : Array Value} {es5 : Array (Option Value)} {ec6 : Value} {ed6 : Option Addr} {vs6 : Array Value} {es6 : Array (Option Value)}
    (a1 : PySem.W.nsIn K mainGlobals "most_times" = some (some (.ref f1))) (l1 : K.lookup f1 = some ⟨oc1, od1, .func (PySem.W.fnOf "most_times" "most_times" (defArgs sMost) (defBody sMost) (defScope sMost) .none kV1 dc1 pm1 an1 cd1 ct1), sl1⟩) (e1 : PySem.W.codeIn K cd1 "most_times" = true) (k1 : PySem.W.keepIn K (.ref f1) = true)
    (a2 : PySem.W.nsIn K mainGlobals "counts_of" = some (some (.ref f2))) (l2 : K.lookup f2 = some ⟨oc2, od2, .func (PySem.W.fnOf "counts_of" "counts_of" (defArgs sCounts) (defBody sCounts) (defScope sCounts) .none kV2 dc2 pm2 an2 (.ref c2) ct2), sl2⟩) (e2 : PySem.W.codeIn K (.ref c2) "counts_of" = true) (k2 : PySem.W.keepIn K (.ref f2) = true)
    (u2 : K.lookup c2 = some ⟨ec2, ed2, .fields vs2, es2⟩) (v2 : vs2[11]? = some (.ref T2)) (n2 : K.lookup T2 = none) (r2 : ((recsOf q).any fun e => e.name == ("counts_of" : Str)) = true)
    (a3 : PySem.W.nsIn K mainGlobals "placed" = some (some (.ref f3))) (l3 : K.lookup f3 = some ⟨oc3, od3, .func (PySem.W.fnOf "placed" "placed" (defArgs s_scPlaced) (defBody s_scPlaced) (defScope s_scPlaced) .none kV3 dc3 pm3 an3 cd3 ct3), sl3⟩) (e3 : PySem.W.codeIn K cd3 "placed" = true) (k3 : PySem.W.keepIn K (.ref f3) = true)
    (a4 : PySem.W.nsIn K mainGlobals "shows_placed" = some (some (.ref f4))) (l4 : K.lookup f4 = some ⟨oc4, od4, .func (PySem.W.fnOf "shows_placed" "shows_placed" (defArgs s_scSPl) (defBody s_scSPl) (defScope s_scSPl) .none kV4 dc4 pm4 an4 (.ref c4) ct4), sl4⟩) (e4 : PySem.W.codeIn K (.ref c4) "shows_placed" = true) (k4 : PySem.W.keepIn K (.ref f4) = true)
    (u4 : K.lookup c4 = some ⟨ec4, ed4, .fields vs4, es4⟩) (v4 : vs4[11]? = some (.ref T4)) (n4 : K.lookup T4 = none) (r4 : ((recsOf q).any fun e => e.name == ("shows_placed" : Str)) = true)
    (a5 : PySem.W.nsIn K mainGlobals "tasks_in" = some (some (.ref f5))) (l5 : K.lookup f5 = some ⟨oc5, od5, .func (PySem.W.fnOf "tasks_in" "tasks_in" (defArgs sTasks) (defBody sTasks) (defScope sTasks) .none kV5 dc5 pm5 an5 (.ref c5) ct5), sl5⟩) (e5 : PySem.W.codeIn K (.ref c5) "tasks_in" = true) (k5 : PySem.W.keepIn K (.ref f5) = true)
    (u5 : K.lookup c5 = some ⟨ec5, ed5, .fields vs5, es5⟩) (v5 : vs5[11]? = some (.ref T5)) (n5 : K.lookup T5 = none) (r5 : ((recsOf q).any fun e => e.name == ("tasks_in" : Str)) = true)
    (a6 : PySem.W.nsIn K mainGlobals "rises" = some (some (.ref f6))) (l6 : K.lookup f6 = some ⟨oc6, od6, .func (PySem.W.fnOf "rises" "rises" (defArgs s_scRises) (defBody s_scRises) (defScope s_scRises) .none kV6 dc6 pm6 an6 (.ref c6) ct6), sl6⟩) (e6 : PySem.W.codeIn K (.ref c6) "rises" = true) (k6 : PySem.W.keepIn K (.ref f6) = true)
    (u6 : K.lookup c6 = some ⟨ec6, ed6, .fields vs6, es6⟩) (v6 : vs6[11]? = some (.ref T6)) (n6 : K.lookup T6 = none) (r6 : ((recsOf q).any fun e => e.name == ("rises" : Str)) = true)
    (a7 : PySem.W.nsIn K mainGlobals "yard_of_houses" = some (some (.ref f7))) (l7 : K.lookup f7 = some ⟨oc7, od7, .func (PySem.W.fnOf "yard_of_houses" "yard_of_houses" (defArgs s_scYard) (defBody s_scYard) (defScope s_scYard) .none kV7 dc7 pm7 an7 cd7 ct7), sl7⟩) (e7 : PySem.W.codeIn K cd7 "yard_of_houses" = true) (k7 : PySem.W.keepIn K (.ref f7) = true)
    (a8 : PySem.W.nsIn K mainGlobals "pairs_by_yards" = some (some (.ref f8))) (l8 : K.lookup f8 = some ⟨oc8, od8, .func (PySem.W.fnOf "pairs_by_yards" "pairs_by_yards" (defArgs s_scByY) (defBody s_scByY) (defScope s_scByY) .none kV8 dc8 pm8 an8 cd8 ct8), sl8⟩) (e8 : PySem.W.codeIn K cd8 "pairs_by_yards" = true) (k8 : PySem.W.keepIn K (.ref f8) = true)
    (a9 : PySem.W.nsIn K mainGlobals "pairs_to_fill" = some (some (.ref f9))) (l9 : K.lookup f9 = some ⟨oc9, od9, .func (PySem.W.fnOf "pairs_to_fill" "pairs_to_fill" (defArgs s_scToFill) (defBody s_scToFill) (defScope s_scToFill) .none kV9 dc9 pm9 an9 cd9 ct9), sl9⟩) (e9 : PySem.W.codeIn K cd9 "pairs_to_fill" = true) (k9 : PySem.W.keepIn K (.ref f9) = true)
    (a10 : PySem.W.nsIn K mainGlobals "first_yard_for" = some (some (.ref f10))) (l10 : K.lookup f10 = some ⟨oc10, od10, .func (PySem.W.fnOf "first_yard_for" "first_yard_for" (defArgs sFirstY) (defBody sFirstY) (defScope sFirstY) .none kV10 dc10 pm10 an10 cd10 ct10), sl10⟩) (e10 : PySem.W.codeIn K cd10 "first_yard_for" = true) (k10 : PySem.W.keepIn K (.ref f10) = true)
    (a11 : PySem.W.nsIn K mainGlobals "first_of_yards" = some (some (.ref f11))) (l11 : K.lookup f11 = some ⟨oc11, od11, .func (PySem.W.fnOf "first_of_yards" "first_of_yards" (defArgs s_scFirsts) (defBody s_scFirsts) (defScope s_scFirsts) .none kV11 dc11 pm11 an11 cd11 ct11), sl11⟩) (e11 : PySem.W.codeIn K cd11 "first_of_yards" = true) (k11 : PySem.W.keepIn K (.ref f11) = true)
    (a12 : PySem.W.nsIn K mainGlobals "filled" = some (some (.ref f12))) (l12 : K.lookup f12 = some ⟨oc12, od12, .func (PySem.W.fnOf "filled" "filled" (defArgs sFilled) (defBody sFilled) (defScope sFilled) .none kV12 dc12 pm12 an12 cd12 ct12), sl12⟩) (e12 : PySem.W.codeIn K cd12 "filled" = true) (k12 : PySem.W.keepIn K (.ref f12) = true)
    (a13 : PySem.W.nsIn K mainGlobals "keeps_yards" = some (some (.ref f13))) (l13 : K.lookup f13 = some ⟨oc13, od13, .func (PySem.W.fnOf "keeps_yards" "keeps_yards" (defArgs s_scKY) (defBody s_scKY) (defScope s_scKY) .none kV13 dc13 pm13 an13 cd13 ct13), sl13⟩) (e13 : PySem.W.codeIn K cd13 "keeps_yards" = true) (k13 : PySem.W.keepIn K (.ref f13) = true)
    (a14 : PySem.W.nsIn K mainGlobals "_law_box" = some (some (.ref f14))) (l14 : K.lookup f14 = some ⟨oc14, od14, .func (PySem.W.fnOf "_law_box" "_law_box" (defArgs sBox) (defBody sBox) (defScope sBox) .none kV14 dc14 pm14 an14 cd14 ct14), sl14⟩) (e14 : PySem.W.codeIn K cd14 "_law_box" = true) (k14 : PySem.W.keepIn K (.ref f14) = true)
    (a15 : PySem.W.nsIn K mainGlobals "_law_take" = some (some (.ref f15))) (l15 : K.lookup f15 = some ⟨oc15, od15, .func (PySem.W.fnOf "_law_take" "_law_take" (defArgs sTake) (defBody sTake) (defScope sTake) .none kV15 dc15 pm15 an15 cd15 ct15), sl15⟩) (e15 : PySem.W.codeIn K cd15 "_law_take" = true) (k15 : PySem.W.keepIn K (.ref f15) = true)
    (a16 : PySem.W.nsIn K mainGlobals "_law_drawn_names" = some (some (.ref f16))) (l16 : K.lookup f16 = some ⟨oc16, od16, .func (PySem.W.fnOf "_law_drawn_names" "_law_drawn_names" (defArgs sDrawn) (defBody sDrawn) (defScope sDrawn) .none kV16 dc16 pm16 an16 cd16 ct16), sl16⟩) (e16 : PySem.W.codeIn K cd16 "_law_drawn_names" = true) (k16 : PySem.W.keepIn K (.ref f16) = true)
    (a17 : PySem.W.nsIn K mainGlobals "_law_want" = some (some (.ref f17))) (l17 : K.lookup f17 = some ⟨oc17, od17, .func (PySem.W.fnOf "_law_want" "_law_want" (defArgs sWant) (defBody sWant) (defScope sWant) .none kV17 dc17 pm17 an17 cd17 ct17), sl17⟩) (e17 : PySem.W.codeIn K cd17 "_law_want" = true) (k17 : PySem.W.keepIn K (.ref f17) = true)
    (a18 : PySem.W.nsIn K mainGlobals "_law_left" = some (some (.ref f18))) (l18 : K.lookup f18 = some ⟨oc18, od18, .func (PySem.W.fnOf "_law_left" "_law_left" (defArgs sLeft) (defBody sLeft) (defScope sLeft) .none kV18 dc18 pm18 an18 cd18 ct18), sl18⟩) (e18 : PySem.W.codeIn K cd18 "_law_left" = true) (k18 : PySem.W.keepIn K (.ref f18) = true)
    (a19 : PySem.W.nsIn K mainGlobals "_law_site" = some (some (.ref f19))) (l19 : K.lookup f19 = some ⟨oc19, od19, .func (PySem.W.fnOf "_law_site" "_law_site" (defArgs sSite) (defBody sSite) (defScope sSite) .none kV19 dc19 pm19 an19 cd19 ct19), sl19⟩) (e19 : PySem.W.codeIn K cd19 "_law_site" = true) (k19 : PySem.W.keepIn K (.ref f19) = true)
    (a20 : PySem.W.nsIn K mainGlobals "_law_count" = some (some (.ref f20))) (l20 : K.lookup f20 = some ⟨oc20, od20, .func (PySem.W.fnOf "_law_count" "_law_count" (defArgs sCount) (defBody sCount) (defScope sCount) .none kV20 dc20 pm20 an20 cd20 ct20), sl20⟩) (e20 : PySem.W.codeIn K cd20 "_law_count" = true) (k20 : PySem.W.keepIn K (.ref f20) = true)
    (a21 : PySem.W.nsIn K mainGlobals "_law_counts" = some (some (.ref f21))) (l21 : K.lookup f21 = some ⟨oc21, od21, .func (PySem.W.fnOf "_law_counts" "_law_counts" (defArgs sLCounts) (defBody sLCounts) (defScope sLCounts) .none kV21 dc21 pm21 an21 cd21 ct21), sl21⟩) (e21 : PySem.W.codeIn K cd21 "_law_counts" = true) (k21 : PySem.W.keepIn K (.ref f21) = true)
    (a22 : PySem.W.nsIn K mainGlobals "_law_most" = some (some (.ref f22))) (l22 : K.lookup f22 = some ⟨oc22, od22, .func (PySem.W.fnOf "_law_most" "_law_most" (defArgs s_scLMost) (defBody s_scLMost) (defScope s_scLMost) .none kV22 dc22 pm22 an22 cd22 ct22), sl22⟩) (e22 : PySem.W.codeIn K cd22 "_law_most" = true) (k22 : PySem.W.keepIn K (.ref f22) = true)
    (a23 : PySem.W.nsIn K mainGlobals "_law_many" = some (some (.ref f23))) (l23 : K.lookup f23 = some ⟨oc23, od23, .func (PySem.W.fnOf "_law_many" "_law_many" (defArgs s_scLMany) (defBody s_scLMany) (defScope s_scLMany) .none kV23 dc23 pm23 an23 cd23 ct23), sl23⟩) (e23 : PySem.W.codeIn K cd23 "_law_many" = true) (k23 : PySem.W.keepIn K (.ref f23) = true)
    (a24 : PySem.W.nsIn K mainGlobals "_law_wares" = some (some (.ref f24))) (l24 : K.lookup f24 = some ⟨oc24, od24, .func (PySem.W.fnOf "_law_wares" "_law_wares" (defArgs sWares) (defBody sWares) (defScope sWares) .none kV24 dc24 pm24 an24 cd24 ct24), sl24⟩) (e24 : PySem.W.codeIn K cd24 "_law_wares" = true) (k24 : PySem.W.keepIn K (.ref f24) = true)
    (a25 : PySem.W.nsIn K mainGlobals "_law_turned" = some (some (.ref f25))) (l25 : K.lookup f25 = some ⟨oc25, od25, .func (PySem.W.fnOf "_law_turned" "_law_turned" (defArgs s_scTu) (defBody s_scTu) (defScope s_scTu) .none kV25 dc25 pm25 an25 cd25 ct25), sl25⟩) (e25 : PySem.W.codeIn K cd25 "_law_turned" = true) (k25 : PySem.W.keepIn K (.ref f25) = true)
    (a26 : PySem.W.nsIn K mainGlobals "_law_more" = some (some (.ref f26))) (l26 : K.lookup f26 = some ⟨oc26, od26, .func (PySem.W.fnOf "_law_more" "_law_more" (defArgs s_scMo) (defBody s_scMo) (defScope s_scMo) .none kV26 dc26 pm26 an26 cd26 ct26), sl26⟩) (e26 : PySem.W.codeIn K cd26 "_law_more" = true) (k26 : PySem.W.keepIn K (.ref f26) = true)
    (a27 : PySem.W.nsIn K mainGlobals "_law_scaled" = some (some (.ref f27))) (l27 : K.lookup f27 = some ⟨oc27, od27, .func (PySem.W.fnOf "_law_scaled" "_law_scaled" (defArgs s_scSca) (defBody s_scSca) (defScope s_scSca) .none kV27 dc27 pm27 an27 cd27 ct27), sl27⟩) (e27 : PySem.W.codeIn K cd27 "_law_scaled" = true) (k27 : PySem.W.keepIn K (.ref f27) = true)
    (a28 : PySem.W.nsIn K mainGlobals "law" = some (some (.ref f28))) (l28 : K.lookup f28 = some ⟨oc28, od28, .func (PySem.W.fnOf "law" "law" (defArgs s_scLaw) (defBody s_scLaw) (defScope s_scLaw) .none kV28 dc28 pm28 an28 cd28 ct28), sl28⟩) (e28 : PySem.W.codeIn K cd28 "law" = true) (k28 : PySem.W.keepIn K (.ref f28) = true)
    (z1 : PySem.W.nsIn K mainGlobals "len" = some none)
    (z2 : PySem.W.nsIn K mainGlobals "abs" = some none)
    (z3 : PySem.W.nsIn K mainGlobals "isinstance" = some none)
    (z4 : PySem.W.nsIn K mainGlobals "list" = some none)
    (z5 : PySem.W.nsIn K mainGlobals "tuple" = some none)
    (z6 : PySem.W.nsIn K mainGlobals "zip" = some none)
    (z7 : PySem.W.nsIn K mainGlobals "all" = some none)
    (z8 : PySem.W.nsIn K mainGlobals "str" = some none)
    (z9 : PySem.W.nsIn K mainGlobals "int" = some none)
    (z10 : PySem.W.nsIn K mainGlobals "bool" = some none)
    (z11 : PySem.W.nsIn K mainGlobals "max" = some none)
    (z12 : PySem.W.nsIn K mainGlobals "min" = some none)
    (z13 : PySem.W.nsIn K mainGlobals "range" = some none)
    (z14 : PySem.W.nsIn K mainGlobals "sorted" = some none)
    (z15 : PySem.W.nsIn K mainGlobals "any" = some none)
    (z16 : PySem.W.nsIn K mainGlobals "dict" = some none)
    (z17 : PySem.W.nsIn K mainGlobals "sum" = some none)
    (z18 : PySem.W.nsIn K mainGlobals "set" = some none)
    (z19 : PySem.W.nsIn K mainGlobals "reversed" = some none)
    (y1 : PySem.W.nsIn K mainGlobals "APART" = some (some (.str "apart" tk1)))
    (y2 : PySem.W.nsIn K mainGlobals "NEAR" = some (some (.str "near" tk2)))
    (y3 : PySem.W.nsIn K mainGlobals "WIDE" = some (some (.str "wide" tk3))) :
    LamX.LawAtS l w K CX0 10 63 "_law_script" mg fa h := by
  have G := Z.g
  have e := hfa.symm.trans (PySem.W.mg_of X G a28)
  cases e
  have F1 := fun_mk (st := sMost) l1 e1 k1
  have b1 := F1.binds (ps := ["want", "room"]) (fun _ _ _ _ _ _ us hl => match us, hl with | [_, _], _ => rfl)
  have m1 := PySem.W.mg_of X G a1
  have C2 : FunC K "counts_of" "counts_of" sCounts f2 _ c2 := ⟨⟨_, _, _, _, _, _, _, _, rfl, l2, e2⟩, k2⟩
  have F2 := C2.fn
  obtain ⟨h2, g2⟩ := tab_at Z X r2 (tab_in a2 l2 rfl u2 v2)
  have b2 := F2.binds (ps := ["site", "many", "want", "how"]) (fun _ _ _ _ _ _ us hl => match us, hl with | [_, _, _, _], _ => rfl)
  have m2 := PySem.W.mg_of X G a2
  have F3 := fun_mk (st := s_scPlaced) l3 e3 k3
  have b3 := F3.binds (ps := ["site", "many", "want", "how"]) (fun _ _ _ _ _ _ us hl => match us, hl with | [_, _, _, _], _ => rfl)
  have m3 := PySem.W.mg_of X G a3
  have C4 : FunC K "shows_placed" "shows_placed" s_scSPl f4 _ c4 := ⟨⟨_, _, _, _, _, _, _, _, rfl, l4, e4⟩, k4⟩
  have F4 := C4.fn
  obtain ⟨h4, g4⟩ := tab_at Z X r4 (tab_in a4 l4 rfl u4 v4)
  have b4 := F4.binds (ps := ["site", "many", "want", "how", "placing"]) (fun _ _ _ _ _ _ us hl => match us, hl with | [_, _, _, _, _], _ => rfl)
  have m4 := PySem.W.mg_of X G a4
  have C5 : FunC K "tasks_in" "tasks_in" sTasks f5 _ c5 := ⟨⟨_, _, _, _, _, _, _, _, rfl, l5, e5⟩, k5⟩
  have F5 := C5.fn
  obtain ⟨h5, g5⟩ := tab_at Z X r5 (tab_in a5 l5 rfl u5 v5)
  have b5 := F5.binds (ps := ["pairs"]) (fun _ _ _ _ _ _ us hl => match us, hl with | [_], _ => rfl)
  have m5 := PySem.W.mg_of X G a5
  have C6 : FunC K "rises" "rises" s_scRises f6 _ c6 := ⟨⟨_, _, _, _, _, _, _, _, rfl, l6, e6⟩, k6⟩
  have F6 := C6.fn
  obtain ⟨h6, g6⟩ := tab_at Z X r6 (tab_in a6 l6 rfl u6 v6)
  have b6 := F6.binds (ps := ["names"]) (fun _ _ _ _ _ _ us hl => match us, hl with | [_], _ => rfl)
  have m6 := PySem.W.mg_of X G a6
  have F7 := fun_mk (st := s_scYard) l7 e7 k7
  have b7 := F7.binds (ps := ["site"]) (fun _ _ _ _ _ _ us hl => match us, hl with | [_], _ => rfl)
  have m7 := PySem.W.mg_of X G a7
  have F8 := fun_mk (st := s_scByY) l8 e8 k8
  have b8 := F8.binds (ps := ["site", "counts"]) (fun _ _ _ _ _ _ us hl => match us, hl with | [_, _], _ => rfl)
  have m8 := PySem.W.mg_of X G a8
  have F9 := fun_mk (st := s_scToFill) l9 e9 k9
  have b9 := F9.binds (ps := ["site", "many", "how", "counts"]) (fun _ _ _ _ _ _ us hl => match us, hl with | [_, _, _, _], _ => rfl)
  have m9 := PySem.W.mg_of X G a9
  have F10 := fun_mk (st := sFirstY) l10 e10 k10
  have b10 := F10.binds (ps := ["many", "groups"]) (fun _ _ _ _ _ _ us hl => match us, hl with | [_, _], _ => rfl)
  have m10 := PySem.W.mg_of X G a10
  have F11 := fun_mk (st := s_scFirsts) l11 e11 k11
  have b11 := F11.binds (ps := ["groups"]) (fun _ _ _ _ _ _ us hl => match us, hl with | [_], _ => rfl)
  have m11 := PySem.W.mg_of X G a11
  have F12 := fun_mk (st := sFilled) l12 e12 k12
  have b12 := F12.binds (ps := ["many", "pairs"]) (fun _ _ _ _ _ _ us hl => match us, hl with | [_, _], _ => rfl)
  have m12 := PySem.W.mg_of X G a12
  have F13 := fun_mk (st := s_scKY) l13 e13 k13
  have b13 := F13.binds (ps := ["site", "how", "placing"]) (fun _ _ _ _ _ _ us hl => match us, hl with | [_, _, _], _ => rfl)
  have m13 := PySem.W.mg_of X G a13
  have F14 := fun_mk (st := sBox) l14 e14 k14
  have b14 := F14.binds (ps := ["_law_script", "_law_k"]) (fun _ _ _ _ _ _ us hl => match us, hl with | [_, _], _ => rfl)
  have m14 := PySem.W.mg_of X G a14
  have F15 := fun_mk (st := sTake) l15 e15 k15
  have b15 := F15.binds (ps := ["_law_box_here", "_law_many_here"]) (fun _ _ _ _ _ _ us hl => match us, hl with | [_, _], _ => rfl)
  have m15 := PySem.W.mg_of X G a15
  have F16 := fun_mk (st := sDrawn) l16 e16 k16
  have b16 := F16.binds (ps := ["_law_box_here", "_law_many_here"]) (fun _ _ _ _ _ _ us hl => match us, hl with | [_, _], _ => rfl)
  have m16 := PySem.W.mg_of X G a16
  have F17 := fun_mk (st := sWant) l17 e17 k17
  have b17 := F17.binds (ps := ["_law_box_here", "_law_wares_here"]) (fun _ _ _ _ _ _ us hl => match us, hl with | [_, _], _ => rfl)
  have m17 := PySem.W.mg_of X G a17
  have F18 := fun_mk (st := sLeft) l18 e18 k18
  have b18 := F18.binds (ps := ["_law_box_here", "_law_want_here"]) (fun _ _ _ _ _ _ us hl => match us, hl with | [_, _], _ => rfl)
  have m18 := PySem.W.mg_of X G a18
  have F19 := fun_mk (st := sSite) l19 e19 k19
  have b19 := F19.binds (ps := ["_law_box_here", "_law_want_here"]) (fun _ _ _ _ _ _ us hl => match us, hl with | [_, _], _ => rfl)
  have m19 := PySem.W.mg_of X G a19
  have F20 := fun_mk (st := sCount) l20 e20 k20
  have b20 := F20.binds (ps := ["_law_want_here", "_law_left_here", "_law_most_here"]) (fun _ _ _ _ _ _ us hl => match us, hl with | [_, _, _], _ => rfl)
  have m20 := PySem.W.mg_of X G a20
  have F21 := fun_mk (st := sLCounts) l21 e21 k21
  have b21 := F21.binds (ps := ["_law_site_here", "_law_many_here", "_law_want_here", "_law_how"]) (fun _ _ _ _ _ _ us hl => match us, hl with | [_, _, _, _], _ => rfl)
  have m21 := PySem.W.mg_of X G a21
  have F22 := fun_mk (st := s_scLMost) l22 e22 k22
  have b22 := F22.binds (ps := ["_law_site_here", "_law_want_here", "_law_how"]) (fun _ _ _ _ _ _ us hl => match us, hl with | [_, _, _], _ => rfl)
  have m22 := PySem.W.mg_of X G a22
  have F23 := fun_mk (st := s_scLMany) l23 e23 k23
  have b23 := F23.binds (ps := ["_law_box_here", "_law_site_here", "_law_want_here", "_law_how"]) (fun _ _ _ _ _ _ us hl => match us, hl with | [_, _, _, _], _ => rfl)
  have m23 := PySem.W.mg_of X G a23
  have F24 := fun_mk (st := sWares) l24 e24 k24
  have b24 := F24.binds (ps := ["_law_box_here"]) (fun _ _ _ _ _ _ us hl => match us, hl with | [_], _ => rfl)
  have m24 := PySem.W.mg_of X G a24
  have F25 := fun_mk (st := s_scTu) l25 e25 k25
  have b25 := F25.binds (ps := ["_law_box_here", "_law_site_here"]) (fun _ _ _ _ _ _ us hl => match us, hl with | [_, _], _ => rfl)
  have m25 := PySem.W.mg_of X G a25
  have F26 := fun_mk (st := s_scMo) l26 e26 k26
  have b26 := F26.binds (ps := ["_law_box_here", "_law_site_here", "_law_want_here"]) (fun _ _ _ _ _ _ us hl => match us, hl with | [_, _, _], _ => rfl)
  have m26 := PySem.W.mg_of X G a26
  have F27 := fun_mk (st := s_scSca) l27 e27 k27
  have b27 := F27.binds (ps := ["_law_site_here", "_law_want_here", "_law_by"]) (fun _ _ _ _ _ _ us hl => match us, hl with | [_, _, _], _ => rfl)
  have m27 := PySem.W.mg_of X G a27
  have F28 := fun_mk (st := s_scLaw) l28 e28 k28
  have w1 := PySem.W.mg_of X G y1
  have w2 := PySem.W.mg_of X G y2
  have w3 := PySem.W.mg_of X G y3
  have W : Txt mg := ⟨PySem.W.mg_none_of X G z1, PySem.W.mg_none_of X G z2, PySem.W.mg_none_of X G z3, PySem.W.mg_none_of X G z4, PySem.W.mg_none_of X G z5, PySem.W.mg_none_of X G z6, PySem.W.mg_none_of X G z7, PySem.W.mg_none_of X G z8, PySem.W.mg_none_of X G z9, PySem.W.mg_none_of X G z10, PySem.W.mg_none_of X G z11, PySem.W.mg_none_of X G z12, PySem.W.mg_none_of X G z13⟩
  have q_sorted := PySem.W.mg_none_of X G z14
  have q_any := PySem.W.mg_none_of X G z15
  have q_dict := PySem.W.mg_none_of X G z16
  have q_sum := PySem.W.mg_none_of X G z17
  have q_set := PySem.W.mg_none_of X G z18
  have q_reversed := PySem.W.mg_none_of X G z19
  refine ⟨PySem.W.fnOf "law" "law" (defArgs s_scLaw) (defBody s_scLaw) (defScope s_scLaw) .none kV28 dc28 pm28 an28 cd28 ct28, [(c2, T2), (c4, T4), (c5, T5), (c6, T6)], spLaw K [T2, T4, T5, T6], fun p hp => ?_, fun p hp => ?_, fun p hp => ?_, fun s v => .of_eq rfl, fun H a ns hl _ hT hS => ⟨a, ns, rfl, hS, hl, fun T hm => ?_, fun _ => rfl⟩, fun base _ _ TB => ?_⟩
  · rcases List.mem_cons.mp hp with e | hp
    · rw [e]; exact g2
    · rcases List.mem_cons.mp hp with e | hp
      · rw [e]; exact g4
      · rcases List.mem_cons.mp hp with e | hp
        · rw [e]; exact g5
        · have e := List.mem_singleton.mp hp
          rw [e]; exact g6
  · rcases List.mem_cons.mp hp with e | hp
    · rw [e]; exact n2
    · rcases List.mem_cons.mp hp with e | hp
      · rw [e]; exact n4
      · rcases List.mem_cons.mp hp with e | hp
        · rw [e]; exact n5
        · have e := List.mem_singleton.mp hp
          rw [e]; exact n6
  · rcases List.mem_cons.mp hp with e | hp
    · rw [e]; exact h2
    · rcases List.mem_cons.mp hp with e | hp
      · rw [e]; exact h4
      · rcases List.mem_cons.mp hp with e | hp
        · rw [e]; exact h5
        · have e := List.mem_singleton.mp hp
          rw [e]; exact h6
  · rcases List.mem_cons.mp hm with e | hm
    · rw [e]; exact ⟨#[], hT (c2, T2) List.mem_cons_self, trivial⟩
    · rcases List.mem_cons.mp hm with e | hm
      · rw [e]; exact ⟨#[], hT (c4, T4) (List.mem_cons_of_mem _ List.mem_cons_self), trivial⟩
      · rcases List.mem_cons.mp hm with e | hm
        · rw [e]; exact ⟨#[], hT (c5, T5) (List.mem_cons_of_mem _ (List.mem_cons_of_mem _ List.mem_cons_self)), trivial⟩
        · have e := List.mem_singleton.mp hm
          rw [e]; exact ⟨#[], hT (c6, T6) (List.mem_cons_of_mem _ (List.mem_cons_of_mem _ (List.mem_cons_of_mem _ List.mem_cons_self))), trivial⟩
  · obtain ⟨p1_2, p2_2, p3_2⟩ := TB (c2, T2) List.mem_cons_self
    have B2 : GxR.TabB base mg c2 T2 := ⟨p1_2, p2_2, p3_2⟩
    obtain ⟨p1_4, p2_4, p3_4⟩ := TB (c4, T4) (List.mem_cons_of_mem _ List.mem_cons_self)
    have B4 : GxR.TabB base mg c4 T4 := ⟨p1_4, p2_4, p3_4⟩
    obtain ⟨p1_5, p2_5, p3_5⟩ := TB (c5, T5) (List.mem_cons_of_mem _ (List.mem_cons_of_mem _ List.mem_cons_self))
    have B5 : GxR.TabB base mg c5 T5 := ⟨p1_5, p2_5, p3_5⟩
    obtain ⟨p1_6, p2_6, p3_6⟩ := TB (c6, T6) (List.mem_cons_of_mem _ (List.mem_cons_of_mem _ (List.mem_cons_of_mem _ List.mem_cons_self)))
    have B6 : GxR.TabB base mg c6 T6 := ⟨p1_6, p2_6, p3_6⟩
    exact ok_law F28 W (ok_box F14 W) m14 F14.kp b14 (ok_take F15) m15 F15.kp b15 (ok_want F17 W q_any (ok_take F15) m15 F15.kp b15) m17 F17.kp b17 (ok_wares F24 (ok_take F15) m15 F15.kp b15) m24 F24.kp b24 (ok_site F19 W (ok_take F15) m15 F15.kp b15 (ok_drawn F16 W (ok_take F15) m15 F15.kp b15) m16 F16.kp b16 (ok_left F18 W (ok_take F15) m15 F15.kp b15) m18 F18.kp b18) m19 F19.kp b19 (ok_lmany F23 W (ok_lmost F22 W q_dict q_sum (ok_lcounts F21 W q_sorted (ok_count F20 W) m20 F20.kp b20) m21 F21.kp b21) m22 F22.kp b22 (ok_take F15) m15 F15.kp b15) m23 F23.kp b23 (ok_lcounts F21 W q_sorted (ok_count F20 W) m20 F20.kp b20) m21 F21.kp b21 (ok_placed F3 (ok_counts (k := 1) C2 W q_sorted B2 w1 w3 (ok_most F1 W) m1 F1.kp b1) m2 F2.kp b2 (ok_filled F12 W q_sorted) m12 F12.kp b12 (ok_toFill F9 W w2 w3 (ok_firstY F10 (tasks_imp (ok_tasksA C5 q_sum B5)) m5 F5.kp b5) m10 F10.kp b10 (ok_byY F8 q_sorted (ok_yard F7) m7 F7.kp b7) m8 F8.kp b8 (ok_firsts F11) m11 F11.kp b11) m9 F9.kp b9) m3 F3.kp b3 (ok_turned F25 W (ok_take F15) m15 F15.kp b15) m25 F25.kp b25 (ok_more F26 W (ok_take F15) m15 F15.kp b15) m26 F26.kp b26 (ok_scaled F27 W) m27 F27.kp b27 (ok_counts (k := 2) C2 W q_sorted B2 w1 w3 (ok_most F1 W) m1 F1.kp b1) m2 F2.kp b2 (ok_spl C4 W q_dict B4 (ok_counts (k := 1) C2 W q_sorted B2 w1 w3 (ok_most F1 W) m1 F1.kp b1) m2 F2.kp b2 (ok_rises C6 W B6) m6 F6.kp b6 (ok_tasksA C5 q_sum B5) m5 F5.kp b5 (ok_ky F13 W q_set w2 w3 (ok_yard F7) m7 F7.kp b7) m13 F13.kp b13) m4 F4.kp b4
end My
open PySem PySem.W PyProof.Rows
set_option maxHeartbeats 0 in
theorem PySem.Challenge.cw_clusterhall_k21_order_and_more_room_holds : PySem.Challenge.rw_clusterhall_k21_order_and_more_room.Holds := by
  w_on; o_law; k_head; (case hw => w_witness2)
  k_fill
  refine My.walk_tabs (l := PySem.Challenge.rw_clusterhall_k21_order_and_more_room) (n := 63) (k := 10) (x := "_law_script") rfl (by decide) rfl ⟨rfl, by decide, by decide⟩ (fun w h Y => PySem.W.kIn_of Y) ?F
  case F =>
    intro w mg mb mean fa h KT KX hmg
    refine' My.all_mk KX KT hmg ?a1 ?l1 ?e1 ?k1 ?a2 ?l2 ?e2 ?k2 ?u2 ?v2 ?n2 ?r2 ?a3 ?l3 ?e3 ?k3 ?a4 ?l4 ?e4 ?k4 ?u4 ?v4 ?n4 ?r4 ?a5 ?l5 ?e5 ?k5 ?u5 ?v5 ?n5 ?r5 ?a6 ?l6 ?e6 ?k6 ?u6 ?v6 ?n6 ?r6 ?a7 ?l7 ?e7 ?k7 ?a8 ?l8 ?e8 ?k8 ?a9 ?l9 ?e9 ?k9 ?a10 ?l10 ?e10 ?k10 ?a11 ?l11 ?e11 ?k11 ?a12 ?l12 ?e12 ?k12 ?a13 ?l13 ?e13 ?k13 ?a14 ?l14 ?e14 ?k14 ?a15 ?l15 ?e15 ?k15 ?a16 ?l16 ?e16 ?k16 ?a17 ?l17 ?e17 ?k17 ?a18 ?l18 ?e18 ?k18 ?a19 ?l19 ?e19 ?k19 ?a20 ?l20 ?e20 ?k20 ?a21 ?l21 ?e21 ?k21 ?a22 ?l22 ?e22 ?k22 ?a23 ?l23 ?e23 ?k23 ?a24 ?l24 ?e24 ?k24 ?a25 ?l25 ?e25 ?k25 ?a26 ?l26 ?e26 ?k26 ?a27 ?l27 ?e27 ?k27 ?a28 ?l28 ?e28 ?k28 ?z1 ?z2 ?z3 ?z4 ?z5 ?z6 ?z7 ?z8 ?z9 ?z10 ?z11 ?z12 ?z13 ?z14 ?z15 ?z16 ?z17 ?z18 ?z19 ?y1 ?y2 ?y3
    (case a1 => k_is)
    (case l1 => k_is)
    (case e1 => k_is)
    (case k1 => k_is)
    (case a2 => k_is)
    (case l2 => k_is)
    (case e2 => k_is)
    (case k2 => k_is)
    (case u2 => k_is)
    (case v2 => rfl)
    (case n2 => first | rfl | decide | (with_unfolding_all rfl))
    (case r2 => decide +kernel)
    (case a3 => k_is)
    (case l3 => k_is)
    (case e3 => k_is)
    (case k3 => k_is)
    (case a4 => k_is)
    (case l4 => k_is)
    (case e4 => k_is)
    (case k4 => k_is)
    (case u4 => k_is)
    (case v4 => rfl)
    (case n4 => first | rfl | decide | (with_unfolding_all rfl))
    (case r4 => decide +kernel)
    (case a5 => k_is)
    (case l5 => k_is)
    (case e5 => k_is)
    (case k5 => k_is)
    (case u5 => k_is)
    (case v5 => rfl)
    (case n5 => first | rfl | decide | (with_unfolding_all rfl))
    (case r5 => decide +kernel)
    (case a6 => k_is)
    (case l6 => k_is)
    (case e6 => k_is)
    (case k6 => k_is)
    (case u6 => k_is)
    (case v6 => rfl)
    (case n6 => first | rfl | decide | (with_unfolding_all rfl))
    (case r6 => decide +kernel)
    (case a7 => k_is)
    (case l7 => k_is)
    (case e7 => k_is)
    (case k7 => k_is)
    (case a8 => k_is)
    (case l8 => k_is)
    (case e8 => k_is)
    (case k8 => k_is)
    (case a9 => k_is)
    (case l9 => k_is)
    (case e9 => k_is)
    (case k9 => k_is)
    (case a10 => k_is)
    (case l10 => k_is)
    (case e10 => k_is)
    (case k10 => k_is)
    (case a11 => k_is)
    (case l11 => k_is)
    (case e11 => k_is)
    (case k11 => k_is)
    (case a12 => k_is)
    (case l12 => k_is)
    (case e12 => k_is)
    (case k12 => k_is)
    (case a13 => k_is)
    (case l13 => k_is)
    (case e13 => k_is)
    (case k13 => k_is)
    (case a14 => k_is)
    (case l14 => k_is)
    (case e14 => k_is)
    (case k14 => k_is)
    (case a15 => k_is)
    (case l15 => k_is)
    (case e15 => k_is)
    (case k15 => k_is)
    (case a16 => k_is)
    (case l16 => k_is)
    (case e16 => k_is)
    (case k16 => k_is)
    (case a17 => k_is)
    (case l17 => k_is)
    (case e17 => k_is)
    (case k17 => k_is)
    (case a18 => k_is)
    (case l18 => k_is)
    (case e18 => k_is)
    (case k18 => k_is)
    (case a19 => k_is)
    (case l19 => k_is)
    (case e19 => k_is)
    (case k19 => k_is)
    (case a20 => k_is)
    (case l20 => k_is)
    (case e20 => k_is)
    (case k20 => k_is)
    (case a21 => k_is)
    (case l21 => k_is)
    (case e21 => k_is)
    (case k21 => k_is)
    (case a22 => k_is)
    (case l22 => k_is)
    (case e22 => k_is)
    (case k22 => k_is)
    (case a23 => k_is)
    (case l23 => k_is)
    (case e23 => k_is)
    (case k23 => k_is)
    (case a24 => k_is)
    (case l24 => k_is)
    (case e24 => k_is)
    (case k24 => k_is)
    (case a25 => k_is)
    (case l25 => k_is)
    (case e25 => k_is)
    (case k25 => k_is)
    (case a26 => k_is)
    (case l26 => k_is)
    (case e26 => k_is)
    (case k26 => k_is)
    (case a27 => k_is)
    (case l27 => k_is)
    (case e27 => k_is)
    (case k27 => k_is)
    (case a28 => k_is)
    (case l28 => k_is)
    (case e28 => k_is)
    (case k28 => k_is)
    (case z1 => k_is)
    (case z2 => k_is)
    (case z3 => k_is)
    (case z4 => k_is)
    (case z5 => k_is)
    (case z6 => k_is)
    (case z7 => k_is)
    (case z8 => k_is)
    (case z9 => k_is)
    (case z10 => k_is)
    (case z11 => k_is)
    (case z12 => k_is)
    (case z13 => k_is)
    (case z14 => k_is)
    (case z15 => k_is)
    (case z16 => k_is)
    (case z17 => k_is)
    (case z18 => k_is)
    (case z19 => k_is)
    (case y1 => k_is)
    (case y2 => k_is)
    (case y3 => k_is)

