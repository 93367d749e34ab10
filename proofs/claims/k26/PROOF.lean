import PyProof.Rows.All
import Wide.All
import OpenK.AllK
import Wide.FinOn
import KE.KStateDown
import Lean
import PyProof.ReprRoads
import HandS.ForMost
import HandS.ForExc
import HandS.Codes
import HandS.Property
import HandS.ClsMeth
import HandS.IsInst
import HandS.Wide
import HandS.WideBits
import HandS.StrMore
import HandS.Deep
import HandS.Strs
import HandS.SortInts
import HandS.Defaults
import HandS.MakeKw
import HandS.MakeKwOnly
import HandS.TupAny
import HandS.Style
import HandS.Head0
import HandS.Head1
import HandS.Head2
import HandS.HeadEnd
import HandS.HeadHook1
import HandS.HeadHook2
import HandS.HeadHook3
import HandS.HeadHook4
import KE.KDictZip
import KE.KDictItemsList
import HandS.ListItems
import HandS.SlotsOwn
import HandS.SetFor
import PyProof.ReprLen
import HandS.SortKw
import KE.DataMinMax
import HandS.TryOnly
import HandS.ExcOwn
import HandS.SetKeys
import HandS.DictComp
import HandS.Iter
import HandS.Small
import HandS.RaiseMore
import PySem.Challenge.RW_numberbooks_k26_whole_counts_of_alike_lo
set_option Elab.async false
set_option linter.all false
set_option maxRecDepth 100000
set_option maxHeartbeats 4000000

namespace Nb
open PySem PySem.Spec PyProof.Rows L2

/-! ### heaps: what a step leaves as it was -/
/-- the drawing list: three whole numbers -/
def Feed (H : Hp) (fa : Addr) : Prop := ∃ x y z : Int, H fa = some (.lst [.int x, .int y, .int z])
/-- a step of a def that draws: all but the drawing list stands -/
structure Stp (fa : Addr) (H H' : Hp) : Prop where
  kp : ∀ b o, b ≠ fa → H b = some o → H' b = some o
  fd : Feed H' fa
theorem Stp.of {fa : Addr} {H H' : Hp} (e : Same H H') (f : Feed H fa) : Stp fa H H' := ⟨fun b o _ h => e b o h, by
  obtain ⟨x, y, z, h⟩ := f
  exact ⟨x, y, z, e _ _ h⟩⟩
theorem Stp.refl {fa : Addr} {H : Hp} (f : Feed H fa) : Stp fa H H := ⟨fun _ _ _ h => h, f⟩
theorem Stp.trans {fa : Addr} {H H1 H2 : Hp} (a : Stp fa H H1) (b : Stp fa H1 H2) : Stp fa H H2 := ⟨fun c o n h => b.kp c o n (a.kp c o n h), b.fd⟩
theorem Stp.same {fa : Addr} {H H1 H2 : Hp} (a : Stp fa H H1) (b : Same H1 H2) : Stp fa H H2 := a.trans (.of b a.fd)
theorem Stp.get {fa b : Addr} {H H' : Hp} {o : HO} (e : Stp fa H H') (n : b ≠ fa) (h : H b = some o) : H' b = some o := e.kp b o n h
theorem Stp.free {fa p : Addr} {H H' : Hp} (e : Stp fa H H') (n : p ≠ fa) (h : H' p = none) : H p = none := by
  cases q : H p with
  | none => rfl
  | some o =>
    rw [e.kp p o n q] at h
    cases h
theorem Feed.ne {H : Hp} {fa p : Addr} (f : Feed H fa) (h : H p = none) : p ≠ fa := by
  obtain ⟨x, y, z, e⟩ := f
  rintro rfl
  rw [h] at e
  cases e
theorem Stp.put {fa : Addr} {H H' : Hp} {x y z : Int} (e : Stp fa H H') : Stp fa H (upd H' fa (.lst [.int x, .int y, .int z])) :=
  ⟨fun b o n h => by rw [upd_ne n]; exact e.kp b o n h, ⟨x, y, z, upd_same⟩⟩
theorem Same.new {H H' : Hp} {p : Addr} {o : HO} (e : Same H H') (h : H' p = none) : Same H (upd H' p o) := fun b u q => by
  rw [upd_ne (ne_of_none (e b u q) h)]
  exact e b u q
theorem Same.mut {H H' : Hp} {p : Addr} {o : HO} (e : Same H H') (h : H p = none) : Same H (upd H' p o) := fun b u q => by
  rw [upd_ne (ne_of_none q h)]
  exact e b u q
theorem Stp.new {fa : Addr} {H H' : Hp} {p : Addr} {o : HO} (e : Stp fa H H') (h : H' p = none) : Stp fa H (upd H' p o) :=
  e.same (Same.new (Same.refl _) h)
theorem Stp.mut {fa : Addr} {H H' : Hp} {p : Addr} {o : HO} (e : Stp fa H H') (h : H p = none) (n : p ≠ fa) : Stp fa H (upd H' p o) :=
  ⟨fun b u nb q => by rw [upd_ne (ne_of_none q h)]; exact e.kp b u nb q, by
    obtain ⟨x, y, z, hf⟩ := e.fd
    exact ⟨x, y, z, by rw [upd_ne n.symm]; exact hf⟩⟩
theorem ne_ff {H : Hp} {a b : Addr} {o : HO} (h : H a = some o) (h' : H b = none) : b ≠ a := (ne_of_none h h').symm

end Nb

/-! ### the head: what the top has written, seen by a hook of one's own -/
namespace NbH
open PySem PySem.Spec PyProof.Rows L2
/-- a def by the path to its function object -/
structure DefA where
  way : PySem.W.Frag → Addr
  nam : Str
  qua : Str
  par : Arguments
  bod : List Stmt
  sco : Scope
def seeF (K : PySem.W.Frag) (a : Addr) : He.FnW := match K.lookup a with
  | some ⟨_, _, .func q, _⟩ => some (q.name, q.qualname, q.params, q.body, q.scope, q.globals, q.closure, q.builtins)
  | _ => none
def DefA.due (d : DefA) : He.FnW := some (d.nam, d.qua, d.par, .stmts d.bod, d.sco, mainGlobals, [], builtinsNs)
def DefA.fine (K : PySem.W.Frag) (d : DefA) : Bool := PySem.W.keepIn K (.ref (d.way K)) && (match K.lookup (d.way K) with
  | some ⟨_, _, .func q, _⟩ => PySem.W.codeIn K q.code d.qua && (He.dflB K q.defaults [] && He.kwdB K q.kwdefaults [])
  | _ => false)
abbrev DefA.Is (K : PySem.W.Frag) (d : DefA) (f : Addr) (q : FuncData) : Prop := FunD K d.nam d.qua d.par d.bod d.sco [] [] f q
theorem DefA.found {K : PySem.W.Frag} {d : DefA} (e : seeF K (d.way K) = d.due) (c : d.fine K = true) : ∃ q, d.Is K (d.way K) q := by
  unfold DefA.fine at c
  obtain ⟨hk, hc⟩ := He.ba c
  unfold seeF at e
  cases hl : K.lookup (d.way K) with
  | none => rw [hl] at hc; cases hc
  | some ob =>
    obtain ⟨cl, dc, da, sl⟩ := ob
    rw [hl] at hc e
    cases da with
    | func q =>
      cases q with
      | mk a1 a2 a3 a4 a5 a6 a7 a8 a9 b1 b2 b3 b4 b5 b6 =>
        unfold DefA.due at e
        simp only [Option.some.injEq, Prod.mk.injEq] at e
        obtain ⟨i1, i2, i3, i4, i5, i6, i7, i8⟩ := e
        subst i1 i2 i3 i4 i5 i6 i7 i8
        obtain ⟨j1, j2⟩ := He.ba hc
        obtain ⟨j3, j4⟩ := He.ba j2
        exact ⟨_, ⟨cl, dc, _, _, _, _, _, _, _, sl, rfl, hl, j1, He.dflB_ok j3, He.kwdB_ok j4⟩, hk⟩
    | _ => cases hc
abbrev Alp : Type := Bool × List He.FnW
def seeA (ex : PySem.W.Frag → Bool) (fs : List DefA) (K : PySem.W.Frag) : Alp := (ex K && fs.all fun d => d.fine K, fs.map fun d => seeF K (d.way K))
def dueA (fs : List DefA) : Alp := (true, fs.map DefA.due)
def seeG (n : Nat) (ex : PySem.W.Frag → Bool) (fs : List DefA) (g : Addr → Option Obj) : Alp := seeA ex fs (He.frG g (He.asD g n ++ [PySem.cStatics]))
def Told (ex : PySem.W.Frag → Bool) (fs : List DefA) (K : PySem.W.Frag) : Prop := seeA ex fs K = dueA fs
def hookA (n : Nat) (ex : PySem.W.Frag → Bool) (fs : List DefA) : PySem.W.Hook where
  α := Alp
  obs := fun s => seeG n ex fs s.heap.get?
  val := fun _ => dueA fs
  says := fun _ h => ∃ K : PySem.W.Frag, K.In h ∧ Told ex fs K
  of := fun _ _ q => ⟨_, He.frG_in, q⟩
  keeps := fun _ _ _ ⟨K, a, b⟩ c => ⟨K, PySem.W.Frag.In.keeps a c, b⟩
theorem seeG_eq {n : Nat} {ex : PySem.W.Frag → Bool} {fs : List DefA} {g : Addr → Option Obj} {s : Shared} (h : ∀ a, g a = s.heap.get? a) : seeG n ex fs g = (hookA n ex fs).obs s :=
  congrArg (seeG n ex fs) (funext h)
theorem Told.ex {ex : PySem.W.Frag → Bool} {fs : List DefA} {K : PySem.W.Frag} (c : Told ex fs K) : ex K = true := by
  have q : (ex K && fs.all fun d => d.fine K) = true := congrArg Prod.fst c
  exact (He.ba q).1
theorem Told.df {ex : PySem.W.Frag → Bool} {fs : List DefA} {K : PySem.W.Frag} (c : Told ex fs K) (i : Nat) {d : DefA} (h : fs[i]? = some d := by rfl) : ∃ q, d.Is K (d.way K) q := by
  have q : (ex K && fs.all fun d => d.fine K) = true := congrArg Prod.fst c
  have e : fs.map (fun d => seeF K (d.way K)) = fs.map DefA.due := congrArg Prod.snd c
  have e2 : (fs.map fun d => seeF K (d.way K))[i]? = (fs.map DefA.due)[i]? := congrArg (fun l => l[i]?) e
  simp only [List.getElem?_map, h, Option.map_some, Option.some.injEq] at e2
  exact DefA.found e2 (List.all_eq_true.mp (He.ba q).2 d (List.mem_of_getElem? h))
/-- a property's getter -/
def getterOf (K : PySem.W.Frag) (C f : Str) : Addr := match PySem.W.recIn K (He.ma K (He.ga K C) f) "property" with
  | some (.ref g :: _) => g
  | _ => 0
def propB (K : PySem.W.Frag) (C f : Str) : Bool :=
  He.eqO (PySem.W.findIn K (.ref (He.ga K C)) f) (some (some (.ref (He.ma K (He.ga K C) f)))) && (He.eqO (PySem.W.specialIn K (.ref (He.ma K (He.ga K C) f)) "__get__") (some (some (.builtin "property.__get__"))) &&
    (decide (PySem.W.takesIn K (.ref (He.ma K (He.ga K C) f)) = some true) && (match PySem.W.recIn K (He.ma K (He.ga K C) f) "property" with
      | some (.ref _ :: _) => true
      | _ => false)))
theorem propB_ok {K : PySem.W.Frag} {C f : Str} (h : propB K C f = true) : PropOf K (He.ga K C) f (He.ma K (He.ga K C) f) (getterOf K C f) := by
  obtain ⟨h1, h⟩ := He.ba h
  obtain ⟨h2, h⟩ := He.ba h
  obtain ⟨h3, h4⟩ := He.ba h
  refine ⟨He.eqO_ok h1, He.eqO_ok h2, of_decide_eq_true h3, ?_⟩
  unfold getterOf
  cases q : PySem.W.recIn K (He.ma K (He.ga K C) f) "property" with
  | none => rw [q] at h4; cases h4
  | some l =>
    rw [q] at h4
    cases l with
    | nil => cases h4
    | cons v r =>
      cases v with
      | ref a => exact ⟨r, rfl⟩
      | _ => cases h4
end NbH

set_option Elab.async false
set_option linter.all false
set_option maxRecDepth 100000
set_option maxHeartbeats 4000000
/-! Rules of my own over the layer: the text of data, a def that must know that no text is being made, own == and !=, properties by one word, len(set(texts)). -/
namespace NbR
open PySem PySem.Spec PyProof.Rows L2

/-! ### repr of data -/
section
variable {X : Cx}
def rRepD (K : PySem.W.Frag) : List V → Hp → VK → Prop := fun xs H Q => ∃ (a : Addr) (d : PyData), xs = [.ref a] ∧ Dp K H (.ref a) d ∧ d.showable = true ∧ d.hasDict = false ∧ d.depth ≤ 60 ∧ d.shown.length ≤ sizeLine ∧ Q (.str d.shown) H
theorem call_repD (hg : X.A.guards = some []) (hu : X.A.units + 64 < cLine) : CallR X (.builtin "repr") (rRepD X.K) := by
  intro pins s σ H xs us Q I r h
  obtain ⟨a, d, rfl, hd, hs, hn, hz, hl, q⟩ := h
  cases r with
  | cons r1 r2 =>
    cases r2
    cases r1
    obtain ⟨as, rd⟩ := Dp.reads I d (.ref a) (.ref a) hd rfl
    exact repr_of_reads' rd hs (fun z => absurd z (by rw [hn]; decide)) hg (by omega) (fun _ _ e => e) (fun h' u tk hk => ⟨.str d.shown, H, I.kept (t' := tk) hk, ⟨u, rfl⟩, q⟩) hl
end

/-! ### a def that is only called where no text is being made -/
structure FnG (P : Program) (w : World) (K : PySem.W.Frag) (mg : Str → Option Value) (base : Heap) (k : Nat) (f : Addr) (fd : FuncData) (ps : List Str) (sp : Sp) : Prop where
  many : ∀ vs H Q E, sp vs H Q E → vs.length = ps.length
  goes : ∀ (A : Around) (outer : List Env) (s : Shared) (H : Hp) (args : Args) (us : List Value) (vs : List V) (Q : VK) (E : XK), A.guards = some [] → Room k A → Env0 P w K mg base A outer s H → BindsTo s fd args (ps.zip us) → Vals vs us →
    sp vs H Q E → codeAny (model P w) A (.call (.ref f) args) (CR CX0 outer P w H s Q E) s
theorem guards_deeper (A : Around) (env : Env) (h : A.guards = some []) : (A.deeper env).guards = some [] := by
  first
    | exact h
    | (unfold Around.deeper; simpa using h)
    | (simp [Around.deeper, h])
theorem fnG_of {P : Program} {w : World} {K : PySem.W.Frag} {mg : Str → Option Value} {base : Heap} {x qual : Str} {params : Arguments} {body : List Stmt} {scope : Scope} {f : Addr} {fd : FuncData} {N ps : List Str} {k : Nat} {sp : Sp}
    (F : FunD K x qual params body scope [] [] f fd) (S : FnScope N ps scope) (len : ∀ vs H Q E, sp vs H Q E → vs.length = ps.length)
    (hb : ∀ (cdv : Value) (A : Around) (outer : List Env) (s : Shared) (H : Hp) (vs : List V) (Q : VK) (E : XK), (A.deeper (envOfC qual scope s.heap.objs.size f cdv)).guards = some [] → Room k (A.deeper (envOfC qual scope s.heap.objs.size f cdv)) → sp vs H Q E →
      ∃ t, PSs (cxOf CX0 P w K mg base N qual scope f cdv A outer s H E) body t ∧ t { nx := fun _ H' => Q .non H', rt := Q } (start N vs) H) : FnG P w K mg base (k + 1) f fd ps sp := by
  obtain ⟨oc, od, dV, kV, doc, pm, an, cdv, ct, osl, rfl, lk, hcd, _, _⟩ := F.ex
  refine ⟨len, fun A outer s H args us vs Q E hg hr e0 bnd rv hsp => ?_⟩
  have hlen := len _ _ _ _ hsp
  have inK : K.In s.heap := e0.mod.kin.keeps fun b o e => (e0.bs b o e).1
  have nolim : s.heap.NoLimit := e0.mod.nolimit.keeps fun b o e => (e0.bs b o e).1
  have kinds : ∀ y ∈ ps.zip us, scope.names.lookup y.1 = some .local ∨ (scope.names.lookup y.1 = some .cell ∧ ((cellsFrom (s.heap.objs.size + 1) scope.names []).lookup y.1).isSome = true) := by
    rintro ⟨y, v⟩ hy
    exact (S.par y (List.of_mem_zip hy).1).elim .inl fun q => .inr ⟨q, PySem.W.cellsFrom_some _ _ _ (.inl q)⟩
  refine codeAny_call_function hr.depth (inK _ _ lk) rfl S.co S.gen rfl (PySem.W.codeRec_of inK hcd) (bnd _ _ _ _ (wpAny_newFunctionEnv_cells S.kind kinds fun env he s1 x => ?_))
  subst he
  refine ⟨nolim.keeps x.toInCall.keep, codeAny_func ?_⟩
  obtain ⟨t, ht, hq⟩ := hb cdv A outer s H vs Q E (guards_deeper A _ hg) (hr.deeper _) hsp
  have J0 : Inv (cxOf CX0 P w K mg base N qual scope f cdv A outer s H E) [] (start N vs) H s1 := inv_start S hr.hd e0 hlen rv x
  refine wpAny_mono (ht.run [] s1 (start N vs) H _ J0 hq) (fun fl s' hs => ?_) fun e s' hs => hs
  cases fl with
  | ret u => obtain ⟨v, σ', H', J, r, q⟩ := hs; exact ⟨v, H', J.os, J.bare, J.base, J.hok, r, q⟩
  | next => obtain ⟨σ', H', J, q⟩ := hs; exact ⟨V.non, H', J.os, J.bare, J.base, J.hok, rfl, q⟩
  | brk => obtain ⟨_, _, _, q⟩ := hs; exact q.elim
  | cont => obtain ⟨_, _, _, q⟩ := hs; exact q.elim
/-- such a def as a constant of the module -/
structure CalG (P : Program) (w : World) (K : PySem.W.Frag) (mg : Str → Option Value) (base : Heap) (k : Nat) (x : Str) (sp : Sp) : Prop where
  ex : ∃ (f : Addr) (fd : FuncData) (ps : List Str), FnG P w K mg base k f fd ps sp ∧ mg x = some (.ref f) ∧ PySem.W.keepIn K (.ref f) = true ∧ Binds K fd ps []
section
variable {X : Cx} {k j : Nat} {sp : Sp} {x : Str} {p pos : Pos} {e : Expr} {es : List Expr} {t : TA}
theorem pe_cG (c : CalG X.prog X.w X.K X.mg X.base k x sp) (hg0 : X.A.guards = some []) (hr : Room j X.A) (hk : k ≤ j) (hg : Gl X x) (ha : PA X (e :: es) t) (hdb : (x == ("__debug__" : Str)) = false := by decide)
    (he : starEach (e :: es) X.env = (false, eval e X.env) :: starEach es X.env := by rfl) (hpl : (backTo pos (starEach es X.env)).any (·.1) = false := by rfl) : PE X (.Call (.Name x p) (e :: es) [] pos) (tCall sp [] E0 t) := by
  obtain ⟨f, fd, ps, F, hm, kp, b⟩ := c.ex
  refine ⟨fun pins s σ H Q I h => wpAny_Call_Name_kw (ld_glob I hg hm ?_ hdb)⟩
  refine PySem.W.callWith_K (h₀ := X.base) I.ok.mod.kin kp (thn (ha.run pos pins s σ H _ I h) fun us s1 z => ?_) he hpl
  obtain ⟨vs, H1, I1, r, q⟩ := z
  rw [List.append_nil] at q
  have hl : (us ++ []).length = ps.length := by rw [List.append_nil, ← r.length]; exact F.many _ _ _ _ q
  have hb := b s1 us I1.kIn hl
  rw [List.append_nil] at hb
  refine ⟨I1.kIn, wpAny_call (codeAny_mono (F.goes X.A X.stack s1 H1 ⟨us, []⟩ us vs Q E0 hg0 (hr.mono hk) I1.env0 hb r q) fun r s' hq => ?_)⟩
  cases r with
  | error e => exact hq.elim
  | ok fl => cases fl with
    | ret u => exact I1.after hq
    | _ => exact hq.elim
end
/-- the law's own call: as the layer's, for such a def -/
theorem lawG {l : PySem.W.OpenLaw} {n k : Nat} {q : Program} {loose : List Str} {XP : (Str → Option Value) → Heap → Prop} {YP : World → Heap → Prop} {d : DefRec} {x : Str}
    (hn : l.most = some n) (hn2 : n ≤ sizeLine) (hdf : d.params.defaults = []) (hr : Room k callerA)
    (F : ∀ (w : World) (mg : Str → Option Value) (fa : Addr) (h : Heap), YP w h → h.Ns mainGlobals mg → mg d.name = some (.ref fa) →
      ∃ (K : PySem.W.Frag) (fd : FuncData) (sp : Sp), K.In h ∧ (∀ (s : Shared) (u : Value), BindsTo s fd ⟨[u], []⟩ [(x, u)]) ∧
        (∀ (H : Hp) (a : Addr) (ns : List Int), ns.length ≤ n → SqL K H a (ns.map V.int) → sp [.ref a] H (fun v _ => v = .bl true) fun _ _ _ => False) ∧
        ∀ base : Heap, K.In base → base.Ns mainGlobals mg → FnG l.prog w K mg base k fa fd [x] sp) :
    PySem.W.WalkO q loose XP YP l.row.toRowW d [] (fun f vs => PySem.call f vs) := by
  refine Att.attach_call hn hdf fun w s₀ s1 mg mb fa o pm cd doc a us ns G Y ho hd hcd hmg hobj hints hlen hgen => ?_
  obtain ⟨K, fd, sp, KX, hbind, hsp, hF⟩ := F w mg fa _ Y G.T.g hmg
  have lenU := hints.length
  have rv : Vals (ns.map V.int) us := vals_ints hints
  have go : ∀ H : Hp, SqL K H a (ns.map V.int) → HOk l.prog w H s1.heap → (∀ b, H b = none ∨ (b = a ∧ K.lookup a = none ∧ H b = some (.frz { cls := .type "list", data := .seq us.toArray } (.lst (ns.map V.int))))) →
      codeAny (model l.prog w) callerA (.call (.ref fa) ⟨[.ref a], []⟩) (fun r s' => r = .ok (.ret (.bool true)) ∧ OldK s1.heap s'.heap ∧ s'.os = s1.os ∧ AllBare s'.gens) s1 := by
    intro H hS hok hA
    have hidden : ∀ {b : Addr} {m : Str → Option Value}, s1.heap.Ns b m → (hidT s1.heap H).Ns b m := by
      rintro b m ⟨ob, es, ep, e1, e2, e3⟩
      refine ⟨ob, es, ep, hidT_get e1 ?_, e2, e3⟩
      rcases hA b with z | ⟨rfl, _, _⟩
      · exact z
      · rw [hobj] at e1; cases e1; cases e2
    have hKb : K.In (hidT s1.heap H) := fun b ob e => hidT_get (KX b ob e) (by
      rcases hA b with z | ⟨rfl, z, _⟩
      · exact z
      · rw [z] at e; cases e)
    have hM : Mod K mg (hidT s1.heap H) := ⟨hKb, hidden G.T.g, ⟨mb, hidden G.T.b, G.T.builtins⟩, by
      obtain ⟨mc, z1, z2⟩ := G.T.nolimit
      exact ⟨mc, hidden z1, z2⟩⟩
    have e0 : Env0 l.prog w K mg (hidT s1.heap H) callerA [] s1 H := ⟨rfl, hM, fun b ob e => of_hidT e, Nat.le_of_eq (hidT_size _ _), trivial, fun b hb => absurd hb (List.not_mem_nil (a := b)), hok, .of_eq hgen⟩
    refine codeAny_mono ((hF _ hKb (hidden G.T.g)).goes callerA [] s1 H ⟨[.ref a], []⟩ [.ref a] [.ref a] (fun v _ => v = .bl true) (fun _ _ _ => False) rfl hr e0 (hbind s1 (.ref a)) (.cons rfl .nil) (hsp H a ns hlen hS)) fun r s' hq => ?_
    cases r with
    | error e => exact hq.elim
    | ok fl => cases fl with
      | ret u =>
        obtain ⟨v, H', z1, z2, un, hok', r', z⟩ := hq
        cases (show v = V.bl true from z)
        cases (show u = Value.bool true from r')
        refine ⟨rfl, OldK.of_keep fun b ob e => ?_, z1, z2⟩
        rcases hA b with y | ⟨rfl, _, y⟩
        · exact un.keep b ob e y (List.not_mem_nil (a := b)) (List.not_mem_nil (a := b))
        · have y2 := (hok' b _ (un.frzs b _ _ y)).1
          rw [hobj] at e; cases e
          exact y2
      | _ => exact hq.elim
  cases hk : K.lookup a with
  | some ob =>
    have e := KX a ob hk
    rw [hobj] at e; cases e
    exact go (fun _ => none) (.inr ⟨_, us.toArray, _, hk, rfl, rfl, rfl, by rw [List.size_toArray, lenU]; exact Nat.le_trans hlen hn2, by simpa using rv⟩) (fun b u z => by cases z) fun b => .inl rfl
  | none =>
    refine go (fun b => if b = a then some (.frz { cls := .type "list", data := .seq us.toArray } (.lst (ns.map V.int))) else none) (.inl (.inr ⟨{ cls := .type "list", data := .seq us.toArray }, if_pos rfl⟩)) (fun b u z => ?_) fun b => ?_
    · by_cases hb : b = a
      · subst hb
        have z' := (if_pos rfl).symm.trans z
        cases z'
        exact ⟨hobj, by rw [List.length_map]; exact Nat.le_trans hlen hn2, us, 0, rv, hobj⟩
      · have z' := (if_neg hb).symm.trans z
        cases z'
    · by_cases hb : b = a
      · exact .inr ⟨hb, hk, if_pos hb⟩
      · exact .inl (if_neg hb)
end NbR

set_option Elab.async false
set_option linter.all false
set_option maxRecDepth 100000
set_option maxHeartbeats 4000000
/-! list(zip(xs, ys)). -/
namespace NbB
open PySem PySem.Spec PyProof.Rows L2
theorem nolen_zip : typeLookup (.type "zip") "__len__" = pure none := am_miss_of_fast (by decide +kernel)
theorem nohint_zip : typeLookup (.type "zip") "__length_hint__" = pure none := am_miss_of_fast (by decide +kernel)
/-- the tuples that were given out -/
structure ZlG (xs ys : Array Value) (lo : Nat) (h : Heap) (as : List Nat) : Prop where
  rise : as.Pairwise (· < ·)
  above : ∀ a ∈ as, lo < a
  pairs : ∀ (j : Nat) (a : Nat), as[j]? = some a → ∃ x y, xs[j]? = some x ∧ ys[j]? = some y ∧ h.get? a = some { cls := .type "tuple", data := .seq #[x, y] }
structure ZSt (z TI TO i1 i2 l1 l2 S : Nat) (xs ys : Array Value) (h : Heap) (i : Nat) : Prop where
  ti : IsPair h TI (.ref i1) (.ref i2)
  h1 : h.IsListIter i1 l1 i
  h2 : h.IsListIter i2 l2 i
  l1 : h.IsList l1 xs
  l2 : h.IsList l2 ys
  st : (IsZip h z TI TO .none ∧ ∃ a b, IsPair h TO a b) ∨ ∃ T f oT, IsZipHeld h z TI TO T f ∧ h.get? T = some oT ∧ S < T
section
variable {prog : Program} {w : World} {A : Around} {E : Value → Shared → Prop} {s : Shared} {z TI TO i1 i2 l1 l2 S : Nat} {xs ys : Array Value} {i : Nat}
theorem ZSt.keep {h h' : Heap} (t : ZSt z TI TO i1 i2 l1 l2 S xs ys h i) (hS : z ≠ S ∧ TI ≠ S ∧ TO ≠ S ∧ i1 ≠ S ∧ i2 ≠ S ∧ l1 ≠ S ∧ l2 ≠ S) (k : ∀ (b : Nat) o, b ≠ S → h.get? b = some o → h'.get? b = some o) : ZSt z TI TO i1 i2 l1 l2 S xs ys h' i := by
  obtain ⟨n1, n2, n3, n4, n5, n6, n7⟩ := hS
  refine ⟨k _ _ n2 t.ti, t.h1.at fun o e => k _ _ n4 e, t.h2.at fun o e => k _ _ n5 e, t.l1.at fun o e => k _ _ n6 e, t.l2.at fun o e => k _ _ n7 e, ?_⟩
  rcases t.st with ⟨a, x, y, b⟩ | ⟨T, f, oT, a, b, c⟩
  · exact .inl ⟨k _ _ n1 a, x, y, k _ _ n3 b⟩
  · exact .inr ⟨T, f, oT, k _ _ n1 a, k _ _ (Nat.ne_of_gt c) b, c⟩
theorem zl_item {Q : Option Value → Shared → Prop} (D : ZipApart z TI TO i1 i2 l1 l2) (t : ZSt z TI TO i1 i2 l1 l2 S xs ys s.heap i) (hz : z < S ∧ TI < S ∧ TO < S ∧ i1 < S ∧ i2 < S) (hS : S < s.heap.objs.size) {x y : Value} (hx : xs[i]? = some x) (hy : ys[i]? = some y)
    (hQ : ∀ h', ZSt z TI TO i1 i2 l1 l2 S xs ys h' (i + 1) → h'.get? s.heap.objs.size = some { cls := .type "tuple", data := .seq #[x, y] } → h'.objs.size = s.heap.objs.size + 1 →
      (∀ (c : Nat) o, c ≠ z → c ≠ TO → c ≠ i1 → c ≠ i2 → s.heap.get? c = some o → h'.get? c = some o) → Q (some (.ref s.heap.objs.size)) { s with heap := h' }) : wpAny (model prog w) A (pyNext (.ref z)) Q E s := by
  obtain ⟨ti, h1, h2, g1, g2, st⟩ := t
  obtain ⟨z1, z2, z3, z4, z5⟩ := hz
  rcases st with ⟨a, u, v, b⟩ | ⟨T, f, oT, a, b, c⟩
  · refine wpAny_pyNext_zip_item D a ti b h1 h2 g1 g2 hx hy fun h' k1 k2 k3 k4 k5 k6 k7 => hQ h' ⟨k7 _ _ D.TIz D.TITO D.TIi1 D.TIi2 ti, k3, k4, g1.at fun o e => k7 _ _ D.l1z D.l1TO D.l1i1 D.l1i2 e, g2.at fun o e => k7 _ _ D.l2z D.l2TO D.l2i1 D.l2i2 e, .inr ⟨_, false, _, k1, k5, hS⟩⟩ k5 k6 k7
  · have n : ∀ d : Nat, d < S → T ≠ d := fun d hd => Nat.ne_of_gt (Nat.lt_trans hd c)
    refine wpAny_pyNext_zip_item_held D a b ti h1 h2 g1 g2 hx hy fun h' k1 k3 k4 k5 k6 k7 => hQ h' ⟨k7 _ _ D.TIz D.TIi1 D.TIi2 ti, k3, k4, g1.at fun o e => k7 _ _ D.l1z D.l1i1 D.l1i2 e, g2.at fun o e => k7 _ _ D.l2z D.l2i1 D.l2i2 e, .inr ⟨T, true, oT, k1, k7 _ _ (n _ z1) (n _ z4) (n _ z5) b, c⟩⟩ k5 k6 fun c o c1 _ c2 c3 e => k7 c o c1 c2 c3 e
theorem zl_done {Q : Option Value → Shared → Prop} (hh : A.handled = none) (D : ZipApart z TI TO i1 i2 l1 l2) (t : ZSt z TI TO i1 i2 l1 l2 S xs ys s.heap i) (he : xs[i]? = none ∨ ys[i]? = none)
    (hQ : ∀ h', (∀ (c : Nat) o, c ≠ z → c ≠ TO → c ≠ i1 → c ≠ i2 → s.heap.get? c = some o → h'.get? c = some o) → Q none { s with heap := h' }) : wpAny (model prog w) A (pyNext (.ref z)) Q E s := by
  obtain ⟨ti, h1, h2, g1, g2, st⟩ := t
  rcases st with ⟨a, u, v, b⟩ | ⟨T, f, oT, a, b, c⟩
  · exact wpAny_pyNext_zip_end hh D a ti b h1 h2 g1 g2 he hQ
  · exact wpAny_pyNext_zip_end_held hh D a b ti h1 h2 g1 g2 he fun h' k => hQ h' fun c o c1 _ c2 c3 e => k c o c1 c2 c3 e
end
section
variable {prog : Program} {w : World} {A : Around} {s : Shared} {R : Result → Shared → Prop} {z TI TO i1 i2 l1 l2 S : Nat} {xs ys : Array Value}
theorem zl_loop (hh : A.handled = none) (D : ZipApart z TI TO i1 i2 l1 l2) (hz : z < S ∧ TI < S ∧ TO < S ∧ i1 < S ∧ i2 < S ∧ l1 < S ∧ l2 < S) (hn : min xs.size ys.size ≤ sizeLine) (res : Value) {h₁ : Heap}
    (hR : ∀ h' tk acc c as, (∀ (b : Nat) o, b ≠ S → b ≠ z → b ≠ TO → b ≠ i1 → b ≠ i2 → h₁.get? b = some o → h'.get? b = some o) → h'.get? S = some { cls := .type "list", dict := none, data := .seq acc c, slots := #[] } → as.length = min xs.size ys.size → ZlG xs ys S h' as →
      acc.toList = as.map Value.ref → R (.ok (.ret res)) { s with heap := h', toks := tk }) :
    ∀ (k i : Nat) (h : Heap) (tk c : Nat) (acc : Array Value) (as : List Nat), min xs.size ys.size - i = k → i ≤ min xs.size ys.size → ZSt z TI TO i1 i2 l1 l2 S xs ys h i → (∀ (b : Nat) o, b ≠ S → b ≠ z → b ≠ TO → b ≠ i1 → b ≠ i2 → h₁.get? b = some o → h.get? b = some o) →
      h.get? S = some { cls := .type "list", dict := none, data := .seq acc c, slots := #[] } → acc.toList = as.map Value.ref → as.length = i → ZlG xs ys S h as →
      codeAny (model prog w) A (.builtin "list.extend.loop" ⟨[.ref S, .ref z, res], []⟩) R { s with heap := h, toks := tk } := by
  obtain ⟨z1, z2, z3, z4, z5, z6, z7⟩ := hz
  have far : ∀ b, S < b → b ≠ S ∧ b ≠ z ∧ b ≠ TO ∧ b ≠ i1 ∧ b ≠ i2 := fun b hb => by omega
  intro k
  induction k with
  | zero =>
    intro i h tk c acc as hk hi hst hkeep hS hacc hal hG
    refine codeAny_builtin PySem.F.entry_extend_loop ?_
    rw [Around.under_plainId PySem.F.plain_extend_loop _]
    show wpAny _ A.in1 (pyNext (.ref z) >>= _) _ _ _
    refine wpAny_bind (zl_done (s := { s with heap := h, toks := tk }) (A := A.in1) hh D hst (by
      by_cases g : xs.size ≤ i
      · exact .inl (Array.getElem?_eq_none g)
      · exact .inr (Array.getElem?_eq_none (by omega))) fun h' he => ?_)
    refine wpAny_pure (hR h' tk acc c as (fun b o b1 b2 b3 b4 b5 e => he b o b2 b3 b4 b5 (hkeep b o b1 b2 b3 b4 b5 e)) (he S _ (by omega) (by omega) (by omega) (by omega) hS) (by omega) ⟨hG.rise, hG.above, fun j a hj => ?_⟩ hacc)
    obtain ⟨x, y, g1, g2, g3⟩ := hG.pairs j a hj
    obtain ⟨f1, f2, f3, f4, f5⟩ := far a (hG.above a (List.mem_of_getElem? hj))
    exact ⟨x, y, g1, g2, he a _ f2 f3 f4 f5 g3⟩
  | succ k ih =>
    intro i h tk c acc as hk hi hst hkeep hS hacc hal hG
    have hx : i < xs.size := by omega
    have hy : i < ys.size := by omega
    have hsz : acc.size = i := by rw [← Array.length_toList, hacc, List.length_map, hal]
    have hSl : (S : Nat) < h.objs.size := Heap.lt_size hS
    refine codeAny_builtin PySem.F.entry_extend_loop ?_
    rw [Around.under_plainId PySem.F.plain_extend_loop _]
    show wpAny _ A.in1 (pyNext (.ref z) >>= _) _ _ _
    refine wpAny_bind (zl_item (s := { s with heap := h, toks := tk }) D hst ⟨z1, z2, z3, z4, z5⟩ hSl (Array.getElem?_eq_getElem hx) (Array.getElem?_eq_getElem hy) fun h' hst' ht hsz' hkp => ?_)
    dsimp only at ht hsz' hkp ⊢
    have hS' := hkp S _ (by omega) (by omega) (by omega) (by omega) hS
    have up : ∀ (b : Nat) o, b ≠ S → h'.get? b = some o → (h'.update S (Obj.mapSeq (·.push (Value.ref h.objs.size)))).get? b = some o := fun b o hb e => (Heap.get?_update_other _ _ (Ne.symm hb)).trans e
    show wpAny _ A.in1 (updateSeq S (·.push (Value.ref h.objs.size)) >>= _) _ _ _
    refine wpAny_bind ?_
    refine wpAny_updateSeq hS' rfl (wpAny_pure ⟨plainId_quiet PySem.F.plain_extend_loop _, ih (i + 1) _ tk _ (acc.push (Value.ref h.objs.size)) (as ++ [h.objs.size]) (by omega) (by omega) (hst'.keep (by omega) up)
      (fun b o b1 b2 b3 b4 b5 e => up b o b1 (hkp b o b2 b3 b4 b5 (hkeep b o b1 b2 b3 b4 b5 e))) (Heap.get?_update_self _ hS' rfl) (by rw [Array.toList_push, hacc, List.map_append]; rfl) (by rw [List.length_append, hal]; rfl) ⟨?_, ?_, ?_⟩⟩) (by rw [hsz]; omega) (by show (acc.push (Value.ref h.objs.size)).size ≤ sizeLine + 1; rw [Array.size_push, hsz]; omega)
    · refine List.pairwise_append.mpr ⟨hG.rise, List.pairwise_singleton _ _, fun a ha b hb => ?_⟩
      rw [List.mem_singleton.mp hb]
      obtain ⟨j, hj⟩ := List.mem_iff_getElem?.mp ha
      obtain ⟨_, _, _, _, e⟩ := hG.pairs j a hj
      exact Heap.lt_size e
    · intro a ha
      rcases List.mem_append.mp ha with ha | ha
      · exact hG.above a ha
      · rw [List.mem_singleton.mp ha]; exact hSl
    · intro j b hj
      rcases Nat.lt_trichotomy j as.length with g | g | g
      · rw [List.getElem?_append_left g] at hj
        obtain ⟨x, y, g1, g2, g3⟩ := hG.pairs j b hj
        obtain ⟨f1, f2, f3, f4, f5⟩ := far b (hG.above b (List.mem_of_getElem? hj))
        exact ⟨x, y, g1, g2, up b _ f1 (hkp b _ f2 f3 f4 f5 g3)⟩
      · subst g
        have hb : h.objs.size = b := by simpa using hj
        subst hb
        exact ⟨_, _, by rw [hal]; exact Array.getElem?_eq_getElem hx, by rw [hal]; exact Array.getElem?_eq_getElem hy, up _ _ (by omega) ht⟩
      · have hnone : (as ++ [h.objs.size])[j]? = none := List.getElem?_eq_none (by rw [List.length_append, List.length_singleton]; omega)
        rw [hnone] at hj; cases hj
theorem zl_extend (hh : A.handled = none) (D : ZipApart z TI TO i1 i2 l1 l2) (hz : z < S ∧ TI < S ∧ TO < S ∧ i1 < S ∧ i2 < S ∧ l1 < S ∧ l2 < S) (hn : min xs.size ys.size ≤ sizeLine) (res : Value) (c₀ : Nat) (t : ZSt z TI TO i1 i2 l1 l2 S xs ys s.heap 0) (hf : IsZip s.heap z TI TO .none) (hS : s.heap.get? S = some { cls := .type "list", data := .seq #[] c₀ })
    (hR : ∀ h' tk acc c as, (∀ (b : Nat) o, b ≠ S → b ≠ z → b ≠ TO → b ≠ i1 → b ≠ i2 → s.heap.get? b = some o → h'.get? b = some o) → h'.get? S = some { cls := .type "list", dict := none, data := .seq acc c, slots := #[] } → as.length = min xs.size ys.size → ZlG xs ys S h' as →
      acc.toList = as.map Value.ref → R (.ok (.ret res)) { s with heap := h', toks := tk }) :
    wpAny (model prog w) A.in1 (Builtin.List.listExtendWith (.ref S) (.ref z) res)
      (fun fin s' => match fin with | .done f => R (.ok f) s' | .again c' => c'.quiet = true ∧ codeAny (model prog w) A c' R s') (fun e s' => R (.error e) s') s := by
  have hT : s.TypeIs (.ref z) "zip" := ⟨_, hf, rfl⟩
  have key : ∀ (h : Heap) (c₁ tk : Nat), (∀ (b : Nat) o, b ≠ S → s.heap.get? b = some o → h.get? b = some o) → h.get? S = some { cls := .type "list", data := .seq #[] c₁ } → codeAny (model prog w) A (.builtin "list.extend.loop" ⟨[.ref S, .ref z, res], []⟩) R { s with heap := h, toks := tk } := by
    intro h c₁ tk hk hS₁
    exact zl_loop (s := s) (h₁ := s.heap) hh D hz hn res hR (min xs.size ys.size) 0 h tk c₁ #[] [] (Nat.sub_zero _) (Nat.zero_le _) (t.keep (by omega) hk) (fun b o b1 _ _ _ _ e => hk b o b1 e) hS₁ rfl rfl ⟨List.Pairwise.nil, (fun _ ha => nomatch ha), (fun j a hj => by simp at hj)⟩
  unfold Builtin.List.listExtendWith
  refine wpAny_bind (wpAny_typeOf hT ?_)
  have h1 : Builtin.List.listSameRef (.ref S) (.ref z) = false := by
    have : S ≠ z := by omega
    simp [Builtin.List.listSameRef, this]
  have h2 : (Value.type "zip" == Value.type "list") = false := by decide
  have h3 : (Value.type "zip" == Value.type "tuple") = false := by decide
  simp only [h1, h2, h3, Bool.or_false, Bool.false_eq_true, if_false]
  refine wpAny_bind (wpAny_pyIter_zip hf ?_)
  refine wpAny_bind (wpAny_holding ?_)
  unfold Builtin.List.listLengthHint
  refine wpAny_bind (wpAny_specialOf hT nolen_zip ?_)
  show wpAny _ A.in1 (specialOf (Value.ref z) (Str.ofString "__length_hint__") >>= _) _ _ _
  refine wpAny_bind (wpAny_specialOf hT nohint_zip ?_)
  refine wpAny_pure ?_
  refine wpAny_ite_split (fun _ => ?_) (fun _ => wpAny_pure ⟨plainId_quiet PySem.F.plain_extend_loop _, key _ c₀ _ (fun b o _ e => e) hS⟩)
  refine wpAny_bind (wpAny_rule ?_)
  refine wpAny_bind ?_
  show wpAny _ _ (updateSeq S (·.push .none) >>= fun _ => updateSeq S (·.pop)) _ _ _
  refine wpAny_bind (wpAny_updateSeq hS rfl ?_)
  have hS₂ := Heap.get?_update_self (Obj.mapSeq (·.push Value.none)) hS rfl
  refine wpAny_updateSeq (hz := by seq_fits) hS₂ rfl ?_
  have hS₃ := Heap.get?_update_self (Obj.mapSeq (·.pop)) hS₂ rfl
  refine wpAny_pure ⟨plainId_quiet PySem.F.plain_extend_loop _, key _ _ _ (fun b o hb e => ?_) hS₃⟩
  exact (Heap.get?_update_other _ _ (Ne.symm hb)).trans ((Heap.get?_update_other _ _ (Ne.symm hb)).trans e)
end
section
variable {prog : Program} {w : World} {A : Around} {E : Value → Shared → Prop} {s : Shared} {z TI TO i1 i2 l1 l2 : Nat} {xs ys : Array Value}
theorem zl_call {Q : Value → Shared → Prop} (hh : A.handled = none) (D : ZipApart z TI TO i1 i2 l1 l2) (hn : min xs.size ys.size ≤ sizeLine) (t : ZSt z TI TO i1 i2 l1 l2 s.heap.objs.size xs ys s.heap 0) (hf : IsZip s.heap z TI TO .none) {a b : Value} (hto : IsPair s.heap TO a b)
    (hQ : ∀ h' tk acc c as, (∀ (b : Nat) o, b ≠ z → b ≠ TO → b ≠ i1 → b ≠ i2 → s.heap.get? b = some o → h'.get? b = some o) → h'.get? s.heap.objs.size = some { cls := .type "list", dict := none, data := .seq acc c, slots := #[] } → as.length = min xs.size ys.size → ZlG xs ys s.heap.objs.size h' as →
      acc.toList = as.map Value.ref → Q (.ref s.heap.objs.size) { s with heap := h', toks := tk }) :
    wpAny (model prog w) A (call (.type "list") [.ref z]) Q E s := by
  refine callType_codes (Q₁ := fun obj s₁ => obj = .ref s.heap.objs.size ∧ s₁ = { s with heap := s.heap.push { cls := .type "list", data := .seq #[] } }) PySem.F.called_list (PySem.F.typeCall_list_1 _) PySem.F.entry_list_init
    (code_list_new _ ⟨rfl, rfl⟩) fun obj s₁ h₁ => ?_
  obtain ⟨rfl, rfl⟩ := h₁
  have hS : (s.heap.push { cls := .type "list", data := .seq #[] }).get? s.heap.objs.size = some { cls := .type "list", data := .seq #[] } := Heap.get?_push_size _ rfl
  have z1 : z < s.heap.objs.size := Heap.lt_size hf
  have z2 : TI < s.heap.objs.size := Heap.lt_size t.ti
  have z3 : TO < s.heap.objs.size := Heap.lt_size hto
  have z4 : i1 < s.heap.objs.size := let ⟨_, ho, _⟩ := t.h1; Heap.lt_size ho
  have z5 : i2 < s.heap.objs.size := let ⟨_, ho, _⟩ := t.h2; Heap.lt_size ho
  have z6 : l1 < s.heap.objs.size := let ⟨_, ho, _⟩ := t.l1; Heap.lt_size ho
  have z7 : l2 < s.heap.objs.size := let ⟨_, ho, _⟩ := t.l2; Heap.lt_size ho
  refine ⟨⟨_, hS, rfl⟩, PySem.F.args_list_init_2 _ _, ?_⟩
  generalize hSe : s.heap.objs.size = S at *
  show wpAny _ _ (do let old ← Builtin.List.listItems (.ref S); Builtin.List.listUpdate (.ref S) (fun _ => #[]); letGo old.toList.reverse; Builtin.List.listExtendWith (.ref S) (.ref z) .none) _ _ _
  refine wpAny_bind ?_
  unfold Builtin.List.listItems
  refine wpAny_bind (wpAny_seqItems hS rfl (wpAny_pure ?_))
  show wpAny _ _ (updateSeq S (fun _ => #[]) >>= fun _ => letGo (#[] : Array Value).toList.reverse >>= fun _ => Builtin.List.listExtendWith (.ref S) (.ref z) .none) _ _ _
  refine wpAny_bind (wpAny_updateSeq hS rfl ?_)
  have hS₂ := Heap.get?_update_self (Obj.mapSeq (fun _ => (#[] : Array Value))) hS rfl
  have oth : ∀ (b : Nat) o, b ≠ S → s.heap.get? b = some o → ((s.heap.push { cls := .type "list", data := .seq #[] }).update S (Obj.mapSeq (fun _ => (#[] : Array Value)))).get? b = some o :=
    fun b o hb e => (Heap.get?_update_other _ _ (Ne.symm hb)).trans (Heap.get?_push_of_some _ e)
  refine wpAny_bind (wpAny_letGo ?_)
  refine zl_extend (A := A.in1) (S := S) hh D ⟨z1, z2, z3, z4, z5, z6, z7⟩ hn .none _ (t.keep (by omega) oth) (oth _ _ (by omega) hf) hS₂ fun h' tk acc c as hk hS' hl hG hacc => ?_
  exact ⟨rfl, hQ h' tk acc c as (fun b o b1 b2 b3 b4 e => hk b o (by have : (b : Nat) < s.heap.objs.size := Heap.lt_size e; omega) b1 b2 b3 b4 (oth b o (by have : (b : Nat) < s.heap.objs.size := Heap.lt_size e; omega) e)) hS' hl hG hacc⟩
end
/-! ### over the layer -/
def putP : Hp → List Addr → List (V × V) → Hp
  | H, a :: as, p :: ps => putP (upd H a (.tup [p.1, p.2])) as ps
  | H, _, _ => H
theorem putP_off {b : Addr} : ∀ (as : List Addr) (ps : List (V × V)) (H : Hp), b ∉ as → putP H as ps b = H b
  | [], _, _, _ => rfl
  | _ :: _, [], _, _ => rfl
  | a :: as, p :: ps, H, h => by
    show putP (upd H a (.tup [p.1, p.2])) as ps b = H b
    rw [putP_off as ps _ (fun z => h (List.mem_cons_of_mem _ z)), upd_ne (fun z => h (by rw [z]; exact List.mem_cons_self))]
theorem putP_at : ∀ (as : List Addr) (ps : List (V × V)) (H : Hp) (j : Nat) (a : Addr) (p : V × V), as.Nodup → as[j]? = some a → ps[j]? = some p → putP H as ps a = some (.tup [p.1, p.2])
  | [], _, _, j, a, p, _, h, _ => by simp at h
  | _ :: _, [], _, j, a, p, _, _, h => by simp at h
  | x :: as, q :: ps, H, 0, a, p, hn, h, g => by
    simp at h g
    subst h g
    show putP (upd H x (.tup [q.1, q.2])) as ps x = _
    rw [putP_off as ps _ (List.nodup_cons.mp hn).1, upd_same]
  | x :: as, q :: ps, H, j + 1, a, p, hn, h, g => putP_at as ps _ j a p (List.nodup_cons.mp hn).2 (by simpa using h) (by simpa using g)
/-- a new list of tuples of two -/
def NewPairs (H : Hp) (Q : VK) (ps : List (V × V)) : Prop := ∀ (H' : Hp) (p : Addr) (ts : List Addr), (∀ b o, H b = some o → H' b = some o) → H p = none → ts.length = ps.length → (∀ t ∈ ts, H t = none) → p ∉ ts → H' p = some (.lst (ts.map V.ref)) →
  (∀ (j : Nat) (t : Addr) (q : V × V), ts[j]? = some t → ps[j]? = some q → H' t = some (.tup [q.1, q.2])) → Q (.ref p) H'
def tListZip (K : PySem.W.Frag) (ta : TA) : TE := fun σ H Q => ta σ H fun vs H1 => ∃ a b xs ys, vs = [.ref a, .ref b] ∧ SqL K H1 a xs ∧ SqL K H1 b ys ∧ xs.length ≤ sizeLine ∧ NewPairs H1 Q (xs.zip ys)
section
variable {X : Cx} {e e2 : Expr} {ta : TA} {p p2 pos pos2 : Pos}
theorem zip_laid {pins : List (Addr × Obj)} {σ : L2.St} {H : Hp} {s : Shared} {h' : Heap} {tk : Nat} {xs ys : List V} {us ws : List Value} {acc : Array Value} {c : Nat} {as : List Nat} {S : Nat} (I : Inv X pins σ H s) (hz : xs.length ≤ sizeLine) (rx : Vals xs us) (ry : Vals ys ws) (hSs : s.heap.objs.size ≤ S)
    (hk : ∀ b o, s.heap.get? b = some o → h'.get? b = some o) (hS : h'.get? S = some { cls := .type "list", dict := none, data := .seq acc c, slots := #[] }) (hl : as.length = min us.toArray.size ws.toArray.size) (hG : ZlG us.toArray ws.toArray S h' as) (hacc : acc.toList = as.map Value.ref) :
    ∃ H' : Hp, (∀ b o, H b = some o → H' b = some o) ∧ H S = none ∧ (∀ t ∈ as, H t = none) ∧ S ∉ as ∧ H' S = some (.lst (as.map V.ref)) ∧ (∀ (j : Nat) (t : Addr) (q : V × V), as[j]? = some t → (xs.zip ys)[j]? = some q → H' t = some (.tup [q.1, q.2])) ∧ Inv X pins σ H' { s with heap := h', toks := tk } := by
  have lx := rx.length
  have ly := ry.length
  simp only [List.size_toArray] at hl
  have hSn : S ∉ as := fun z => Nat.lt_irrefl _ (hG.above _ z)
  have nd : as.Nodup := List.Pairwise.imp (fun {a b} (h : a < b) => Nat.ne_of_lt h) hG.rise
  have new : ∀ t ∈ as, H t = none := fun t ht => I.hok.fresh (by have h1 : (S : Nat) < t := hG.above t ht; omega)
  have newS : H S = none := I.hok.fresh hSs
  have off : ∀ b, b ∉ as → b ≠ S → putP (upd H S (.lst (as.map V.ref))) as (xs.zip ys) b = H b := fun b h1 h2 => by rw [putP_off as _ _ h1, upd_ne h2]
  have low : ∀ b o, s.heap.get? b = some o → b ∉ as ∧ b ≠ S := fun b o e => by
    have hb : (b : Nat) < s.heap.objs.size := Heap.lt_size e
    exact ⟨fun z => absurd (hG.above b z) (Nat.not_lt.mpr (Nat.le_of_lt (Nat.lt_of_lt_of_le hb hSs))), Nat.ne_of_lt (Nat.lt_of_lt_of_le hb hSs)⟩
  have kp : ∀ b u, H b = some u → (putP (upd H S (.lst (as.map V.ref))) as (xs.zip ys)) b = some u := fun b u e => by
    rw [off b (fun z => by rw [new b z] at e; cases e) (fun z => by rw [z, newS] at e; cases e)]
    exact e
  have eS : putP (upd H S (.lst (as.map V.ref))) as (xs.zip ys) S = some (.lst (as.map V.ref)) := by rw [putP_off as _ _ hSn, upd_same]
  refine ⟨putP (upd H S (.lst (as.map V.ref))) as (xs.zip ys), kp, newS, new, hSn, eS, fun j t q h1 h2 => putP_at as _ _ j t q nd h1 h2, ?_⟩
  refine I.call' (ch := []) rfl ⟨fun b o q _ _ _ => hk b o q, fun b o q _ _ _ => ⟨o.slots, hk b o q⟩, fun b o q n _ => ?_, fun b o q _ => ⟨o, hk b o q⟩, fun b xs q => kp b _ q, fun b o u q => kp b _ q, fun b ps q => ⟨#[], by rw [kp b _ q]; simp⟩⟩ (fun b u q => ?_) I.bare fun b z => by simp at z
  · obtain ⟨z1, z2⟩ := low b o q
    rw [off b z1 z2]
    exact n
  · by_cases hb : b ∈ as
    · obtain ⟨j, hj⟩ := List.mem_iff_getElem?.mp hb
      have hj2 := (List.getElem?_eq_some_iff.mp hj).1
      obtain ⟨x, y, f1, f2, f3⟩ := hG.pairs j b hj
      obtain ⟨ux, gx⟩ : ∃ v, xs[j]? = some v := ⟨_, List.getElem?_eq_getElem (by omega)⟩
      obtain ⟨uy, gy⟩ : ∃ v, ys[j]? = some v := ⟨_, List.getElem?_eq_getElem (by omega)⟩
      obtain ⟨vx, k1, r1⟩ := rx.get gx
      obtain ⟨vy, k2, r2⟩ := ry.get gy
      have ex : vx = x := by
        have : us[j]? = some x := by simpa using f1
        rw [k1] at this
        exact Option.some.inj this
      have ey : vy = y := by
        have : ws[j]? = some y := by simpa using f2
        rw [k2] at this
        exact Option.some.inj this
      subst ex ey
      have hzp : (xs.zip ys)[j]? = some (ux, uy) := by
        rw [List.getElem?_zip_eq_some]
        exact ⟨gx, gy⟩
      rw [putP_at as _ _ j b (ux, uy) nd hj hzp] at q
      cases q
      exact ⟨by show 2 ≤ sizeLine; decide, [vx, vy], .cons r1 (.cons r2 .nil), ⟨_, f3, rfl, _, rfl⟩⟩
    · by_cases hb2 : b = S
      · rw [hb2] at q ⊢
        rw [eS] at q
        cases q
        refine ⟨by rw [List.length_map]; omega, acc.toList, c, by rw [hacc]; exact LiI.vals_refs as, ?_⟩
        rw [Array.toArray_toList]
        exact hS
      · rw [off b hb hb2] at q
        exact (I.hok b u q).stay (fun d v _ y => hk d v y) (fun d y => kp d _ y) fun d xs y => kp d _ y
/-- list(zip(a, b)) -/
theorem pe_listZip (hc : X.calm = true) (hg : Gl X "list") (hm : X.mg "list" = none) (hv : bootBuiltins "list" = some (.type "list")) (hg2 : Gl X "zip") (hm2 : X.mg "zip" = none) (ha : PA X [e, e2] ta)
    (hs2 : starEach [e, e2] X.env = (false, eval e X.env) :: starEach [e2] X.env := by rfl) (hpl : (backTo pos2 (starEach [e2] X.env)).any (·.1) = false := by rfl)
    (hs : starEach [.Call (.Name "zip" p2) [e, e2] [] pos2] X.env = (false, eval (.Call (.Name "zip" p2) [e, e2] [] pos2) X.env) :: starEach [] X.env := by rfl) :
    PE X (.Call (.Name "list" p) [.Call (.Name "zip" p2) [e, e2] [] pos2] [] pos) (tListZip X.K ta) := by
  refine ⟨fun pins s σ H Q I hq => ?_⟩
  refine wpAny_Call_Name_kw (ld_blt I hg hm hv ?_)
  refine PyProof.Rows.callWith_type1 ?_ hs rfl
  rw [hs]
  show wpAny _ _ (spliced ((false, eval (.Call (.Name "zip" p2) [e, e2] [] pos2) X.env) :: backTo pos (starEach [] X.env))) _ _ s
  refine Calls.spliced_cons ?_
  refine Call_ (ld_blt I hg2 hm2 PyProof.Rows.boot_zip (PyProof.Rows.callWith_type1 (thn (ha.run pos2 pins s σ H _ I hq) fun us s1 ⟨vs, H1, I1, r1, q1⟩ => ?_) hs2 hpl))
  obtain ⟨a, b, xs, ys, ex, hqx, hqy, hxl, q⟩ := q1
  subst ex
  cases r1 with
  | cons r rr =>
    cases rr with
    | cons r' rr =>
      cases rr
      cases r
      cases r'
      obtain ⟨its, rv, p1, _⟩ := I1.list hqx
      obtain ⟨its2, rv2, p2', _⟩ := I1.list hqy
      have la : a < s1.heap.objs.size := p1.lt
      have lb : b < s1.heap.objs.size := p2'.lt
      refine call_zip_2 p1.isList p2'.isList fun h' hz hTI hTO h1 h2 hsz hk => ?_
      refine Calls.spliced_nil ?_
      have lx := rv.length
      have D := PySem.W.ktu_apart s1.heap.objs.size a b la lb
      refine zl_call (s := { s1 with heap := h' }) (I1.ok.hd hc) D (xs := its.toArray) (ys := its2.toArray) (by rw [List.size_toArray, ← lx]; omega) ⟨hTI, h1, h2, p1.isList.at fun o e => hk _ _ e, p2'.isList.at fun o e => hk _ _ e, .inl ⟨hz, _, _, hTO⟩⟩ hz hTO fun h'' tk acc c as hk' hS hl hG hacc => ?_
      have big : ∀ b o, s1.heap.get? b = some o → h''.get? b = some o := fun b o e => by
        have h1 : (b : Nat) < s1.heap.objs.size := Heap.lt_size e
        have nn : ∀ k : Nat, (b : Nat) ≠ s1.heap.objs.size + k := fun k => Nat.ne_of_lt (Nat.lt_of_lt_of_le h1 (Nat.le_add_right _ _))
        exact hk' b o (nn 4) (nn 3) (nn 0) (nn 1) (hk b o e)
      have hS0 : s1.heap.objs.size ≤ h'.objs.size := by omega
      obtain ⟨H', k1, k2, k3, k4, k5, k6, J⟩ := zip_laid (tk := tk) I1 hxl rv rv2 hS0 big hS hl hG hacc
      have ly := rv2.length
      simp only [List.size_toArray] at hl
      exact ⟨.ref h'.objs.size, H', J, rfl, q H' _ as k1 k2 (by rw [List.length_zip]; omega) k3 k4 k5 k6⟩
end
end NbB

set_option Elab.async false
set_option linter.all false
set_option maxRecDepth 100000
set_option maxHeartbeats 4000000
/-! == and != by an own __eq__, also where the right side's class stands below the left one's; a method, a property of an instance of one of two classes. -/
namespace NbE
open PySem PySem.Spec PyProof.Rows L2
/-- two classes, told by a truth value -/
abbrev Two := Bool → Addr

section
variable {prog : Program} {w : World} {A : Around} {E : Value → Shared → Prop} {s : Shared} {K : PySem.W.Frag} {x y C D f : Addr} {ox oy : Obj} {od oe : Option Obj} {b tb : Value}
open PySem.W in
/-- the right side's class stands below: its own method is asked first -/
theorem cmp_below {op : CmpOp} {Q : Value → Shared → Prop} (hu : A.units < cLine) (X : K.In s.heap) (I : InstAt s.heap x ox C od) (J : InstAt s.heap y oy D oe) (hne : D ≠ C) (hsub : subIn K (.ref D) (.ref C) = some true)
    (h : wpAny (model prog w) A (tryCompare (.ref y) (cmpInfo op).2.2 (.ref x)) (fun r s' => ∃ v, r = some v ∧ Q v s') E s) : wpAny (model prog w) A (richCompare op (.ref x) (.ref y)) Q E s := by
  unfold richCompare
  simp only [oneThing_ref]
  refine wpAny_holding (wpAny_bind (wpAny_cRoomFor hu (wpAny_bind (I.type.here (wpAny_bind (J.type.here ?_))))))
  have hq : (Value.ref C != Value.ref D) = true := by
    simp only [bne_iff_ne, ne_eq, Value.ref.injEq]
    exact fun e => hne e.symm
  rw [if_pos hq]
  refine wpAny_bind ((looks_subIn X hsub).here ?_)
  simp only [if_true]
  refine wpAny_bind (wpAny_mono h (fun r s' z => ?_) fun _ _ e => e)
  obtain ⟨v, rfl, q⟩ := z
  exact wpAny_bind (wpAny_rule (wpAny_pure q))
open PySem.W in
/-- the left side's own method is asked first -/
theorem cmp_left {op : CmpOp} {Q : Value → Shared → Prop} (hu : A.units < cLine) (X : K.In s.heap) (I : InstAt s.heap x ox C od) (hb : Looks (model prog w) s.heap (typeOf b) tb) (hn : notFirst K C tb = true)
    (h : wpAny (model prog w) A (tryCompare (.ref x) (cmpInfo op).2.1 b) (fun r s' => ∃ v, r = some v ∧ Q v s') E s) : wpAny (model prog w) A (richCompare op (.ref x) b) Q E s := by
  have one : ∀ {α : Type} (k : Option Value → Sem α) (k' : Value → Sem α) (R : α → Shared → Prop), (∀ v, k (some v) = k' v) → (∀ v s', Q v s' → wpAny (model prog w) A (k' v) R E s') → wpAny (model prog w) A (tryCompare (.ref x) (cmpInfo op).2.1 b >>= k) R E s :=
    fun k k' R e hk => wpAny_bind (wpAny_mono h (fun r s' z => by
      obtain ⟨v, rfl, q⟩ := z
      rw [e v]
      exact hk v s' q) fun _ _ z => z)
  unfold richCompare
  simp only [oneThing_ref]
  refine wpAny_holding (wpAny_bind (wpAny_cRoomFor hu (wpAny_bind (I.type.here (wpAny_bind (hb.here ?_))))))
  split
  · rename_i q
    have e : subIn K tb (.ref C) = some false := by
      rcases Bool.or_eq_true_iff.mp hn with z | z
      · rw [beq_iff_eq.mp z] at q; simp at q
      · exact beq_iff_eq.mp z
    refine wpAny_bind ((looks_subIn X e).here ?_)
    simp only [Bool.false_eq_true, if_false]
    exact one _ (fun v => pure v) _ (fun _ => rfl) fun v s' z => wpAny_pure z
  · refine wpAny_bind (wpAny_pure ?_)
    simp only [Bool.false_eq_true, if_false]
    exact one _ (fun v => pure v) _ (fun _ => rfl) fun v s' z => wpAny_pure z
open PySem.W in
/-- self.__eq__(other), a def of the text that hands back True or False -/
theorem try_eq {Q : Option Value → Shared → Prop} (X : K.In s.heap) (I : InstAt s.heap x ox C od) (hs : findIn K (.ref C) "__eq__" = some (some (.ref f))) (hf : isFn K (.ref f) = true)
    (h : wpAny (model prog w) A (call (.ref f) [.ref x, b]) (fun v s' => ∃ c, v = .bool c ∧ Q (some v) s') E s) : wpAny (model prog w) A (tryCompare (.ref x) "__eq__" b) Q E s := by
  unfold tryCompare
  refine wpAny_bind (ifBound_K X I hs hf (wpAny_mono h (fun v s' z => ?_) fun _ _ e => e))
  obtain ⟨c, rfl, q⟩ := z
  exact wpAny_pure q
open PySem.W in
/-- self.__ne__(other), object's: by the own __eq__, turned round -/
theorem try_ne {Q : Option Value → Shared → Prop} (hu : A.units + 1 < cLine) (X : K.In s.heap) (I : InstAt s.heap x ox C od) (hm : mroIn K C (.type "object") = some true) (hn : findIn K (.ref C) "__ne__" = some (some (.builtin "object.__ne__")))
    (hs : findIn K (.ref C) "__eq__" = some (some (.ref f))) (hf : isFn K (.ref f) = true)
    (h : wpAny (model prog w) A.in1 (call (.ref f) [.ref x, b]) (fun v s' => ∃ c, v = .bool c ∧ Q (some (.bool (!c))) s') E s) : wpAny (model prog w) A (tryCompare (.ref x) "__ne__" b) Q E s := by
  have whole : wpAny (model prog w) A (call (.builtin "object.__ne__") ([.ref x] ++ [b])) (fun v s' => ∃ c, v = .bool c ∧ Q (some v) s') E s := by
    refine wpAny_call (codeAny_call_builtin F.cmp_object.ne.plain F.cmpEntry_ne (check_slot F.cmpKind_ne F.cmpSplit_ne (I.type.andThen (looks_mroIn X hm)) (F.cmpArgs_ne _ _) ?_))
    unfold Builtin.«object.__ne__»
    have hq : ∀ {R : Option Value → Shared → Prop}, (∀ c s', Q (some (.bool (!c))) s' → R (some (.bool c)) s') → wpAny (model prog w) A.in1 (callSpecialIfBound? (.ref x) "__eq__" [b]) R E s := fun {R} k =>
      ifBound_K X I hs hf (wpAny_mono h (fun v s' z => by
        obtain ⟨c, rfl, q⟩ := z
        exact k c s' q) fun _ _ e => e)
    repeat (first | with_reducible refine wpAny_cRoomFor (by show A.units + 1 < cLine; omega) ?_ | with_reducible refine hq (fun c s' z => ?_) | wp_step)
    all_goals first | exact ⟨_, rfl, z⟩ | exact z | skip
  unfold tryCompare callSpecialIfBound? bindSpecialIfBound?
  refine wpAny_bind (wpAny_holding (wpAny_bind (wpAny_bind (wpAny_bind (I.type.here ((looks_findIn X hn).here ?_))))))
  have fin : ∀ {R : Option Value → Shared → Prop}, (∀ c s', Q (some (.bool c)) s' → R (some (.bool c)) s') → wpAny (model prog w) A (call (.builtin "object.__ne__") ([.ref x] ++ [b]) >>= fun v => pure (some v)) R E s := fun {R} k =>
    wpAny_bind (wpAny_mono whole (fun v s' z => by
      obtain ⟨c, rfl, q⟩ := z
      exact wpAny_pure (k c s' q)) fun _ _ e => e)
  refine wpAny_bind (wpAny_askSetting (wpAny_ite ?_))
  split
  · exact wpAny_bind (wpAny_of_eq (F.cmp_object.ne.bind _) (wpAny_pure (fin fun c s' q => wpAny_pure q)))
  · exact wpAny_tryCatch (wpAny_bind (wpAny_of_eq (F.cmp_object.ne.bind _) (wpAny_pure (fin fun c s' q => wpAny_pure q))))
end

/-! ### promises at an address -/
section
variable {X : Cx} {pins : List (Addr × Obj)} {σ : L2.St} {H : Hp} {s : Shared} {k j n : Nat} {sp : Sp} {f : Addr} {Q : VK}
abbrev At (X : Cx) (k : Nat) (f : Addr) (sp : Sp) : Prop := C8.CalAt X.prog X.w X.K X.mg X.base k f sp
theorem run_at {A : Around} {E : Value → Shared → Prop} {us : List Value} {vs : List V} (c : At X k f sp) (hA : Room k A) (fr : A.frames = X.A.frames) (I : Inv X pins σ H s) (r : Vals vs us) (h : sp vs H Q E0) :
    wpAny (model X.prog X.w) A (call (.ref f) us) (EP X pins σ Q) E s := by
  obtain ⟨fd, ps, F, kp, b⟩ := c.ex
  have e := I.env0
  have hl : (us ++ []).length = ps.length := by rw [List.append_nil, ← r.length]; exact F.len _ _ _ _ h
  have hb := b s us I.kIn hl
  rw [List.append_nil] at hb
  refine wpAny_call (codeAny_mono (F.run A X.stack s H ⟨us, []⟩ us vs Q E0 hA ⟨fr.trans e.frames, e.mod, e.bs, e.bsz, e.funs, e.frf, e.hok, e.bare⟩ hb r h) fun r s' q => ?_)
  cases r with
  | error e => exact q.elim
  | ok fl => cases fl with
    | ret u => exact I.after q
    | _ => exact q.elim

/-! ### == and != of instances of two classes, one below the other -/
structure TwoOk (K : PySem.W.Frag) (C : Two) (f : Addr) : Prop where
  below : PySem.W.subIn K (.ref (C true)) (.ref (C false)) = some true
  apart : C true ≠ C false
  eq : ∀ c, PySem.W.findIn K (.ref (C c)) "__eq__" = some (some (.ref f))
  fn : PySem.W.isFn K (.ref f) = true
  ne : ∀ c, PySem.W.findIn K (.ref (C c)) "__ne__" = some (some (.builtin "object.__ne__"))
  ob : ∀ c, PySem.W.mroIn K (C c) (.type "object") = some true
/-- what is asked: the promise of __eq__ at the two, in the sequence in which it is called -/
def rTwo (K : PySem.W.Frag) (C : Two) (sp : Sp) (g : Bool → Bool) : R2 := fun x y H Q => ∃ (a : Addr) (c : Bool) (dx : Addr) (fs : List (Str × V)), x = .ref a ∧ H a = some (.ins (C c) dx fs) ∧
  ((∃ (b dy : Addr) (gs : List (Str × V)), y = .ref b ∧ c = false ∧ H b = some (.ins (C true) dy gs) ∧ sp [y, x] H (fun v H' => ∃ r, v = .bl r ∧ Q (.bl (g r)) H') E0) ∨
   (∃ t, TyX K H y t ∧ PySem.W.notFirst K (C c) t = true ∧ sp [x, y] H (fun v H' => ∃ r, v = .bl r ∧ Q (.bl (g r)) H') E0))
theorem two_eq {C : Two} (T : TwoOk X.K C f) (F : At X k f sp) (hr : Room k X.A) : OpR X (compareOp .Eq) (rTwo X.K C sp id) := by
  intro pins s σ H x y v u Q I rx ry h
  obtain ⟨a, c, dx, fs, rfl, ha, h⟩ := h
  cases rx
  obtain ⟨mA, O, _⟩ := ins_get I.hok ha
  obtain ⟨od, J, _⟩ := O.look
  show wpAny _ _ (richCompare .Eq (.ref a) u) _ _ _
  rcases h with ⟨b, dy, gs, rfl, rfl, hb, q⟩ | ⟨t, ty, hn, q⟩
  · cases ry
    obtain ⟨mB, O', _⟩ := ins_get I.hok hb
    obtain ⟨od', J', _⟩ := O'.look
    refine cmp_below hr.units0 I.kIn J J' T.apart T.below (try_eq I.kIn J' (T.eq true) T.fn (wpAny_mono (run_at (vs := [.ref b, .ref a]) F hr rfl I (.cons rfl (.cons rfl .nil)) q) (fun w s' z => ?_) fun _ _ z => z))
    obtain ⟨v', H', I', rv, r, rfl, z⟩ := z
    cases rv
    exact ⟨r, rfl, _, rfl, .bl r, H', I', rfl, z⟩
  · obtain ⟨P, Z, p, _⟩ := kit_of I ry ty
    refine cmp_left hr.units0 I.kIn J (Z.ty _ _ I.kIn p) hn (try_eq I.kIn J (T.eq c) T.fn (wpAny_mono (run_at (vs := [.ref a, y]) F hr rfl I (.cons rfl (.cons ry .nil)) q) (fun w s' z => ?_) fun _ _ z => z))
    obtain ⟨v', H', I', rv, r, rfl, z⟩ := z
    cases rv
    exact ⟨r, rfl, _, rfl, .bl r, H', I', rfl, z⟩
theorem two_ne {C : Two} (T : TwoOk X.K C f) (F : At X k f sp) (hr : Room (k + 1) X.A) : OpR X (compareOp .NotEq) (rTwo X.K C sp not) := by
  intro pins s σ H x y v u Q I rx ry h
  have hu := hr.units
  obtain ⟨a, c, dx, fs, rfl, ha, h⟩ := h
  cases rx
  obtain ⟨mA, O, _⟩ := ins_get I.hok ha
  obtain ⟨od, J, _⟩ := O.look
  show wpAny _ _ (richCompare .NotEq (.ref a) u) _ _ _
  rcases h with ⟨b, dy, gs, rfl, rfl, hb, q⟩ | ⟨t, ty, hn, q⟩
  · cases ry
    obtain ⟨mB, O', _⟩ := ins_get I.hok hb
    obtain ⟨od', J', _⟩ := O'.look
    refine cmp_below hr.units0 I.kIn J J' T.apart T.below (try_ne (by omega) I.kIn J' (T.ob true) (T.ne true) (T.eq true) T.fn (wpAny_mono (run_at (vs := [.ref b, .ref a]) F hr.in1 rfl I (.cons rfl (.cons rfl .nil)) q) (fun w s' z => ?_) fun _ _ z => z))
    obtain ⟨v', H', I', rv, r, rfl, z⟩ := z
    cases rv
    exact ⟨r, rfl, _, rfl, .bl (!r), H', I', rfl, z⟩
  · obtain ⟨P, Z, p, _⟩ := kit_of I ry ty
    refine cmp_left hr.units0 I.kIn J (Z.ty _ _ I.kIn p) hn (try_ne (by omega) I.kIn J (T.ob c) (T.ne c) (T.eq c) T.fn (wpAny_mono (run_at (vs := [.ref a, y]) F hr.in1 rfl I (.cons rfl (.cons ry .nil)) q) (fun w s' z => ?_) fun _ _ z => z))
    obtain ⟨v', H', I', rv, r, rfl, z⟩ := z
    cases rv
    exact ⟨r, rfl, _, rfl, .bl (!r), H', I', rfl, z⟩
end

/-! ### a method, a property of an instance of one of the two -/
section
variable {X : Cx} {k j : Nat} {sp : Sp} {f : Addr} {C : Two} {o e : Expr} {es : List Expr} {m : Str} {ta : TE} {t : TA} {apos pos : Pos}
def tMeth2 (C : Two) (m : Str) (sp : Sp) (ta : TE) (t : TA) : TE := fun σ H Q => ta σ H fun x H1 => ∃ (a : Addr) (c : Bool) (dx : Addr) (fs : List (Str × V)), x = .ref a ∧ H1 a = some (.ins (C c) dx fs) ∧ fs.lookup m = none ∧ t σ H1 fun vs H2 => sp (x :: vs) H2 Q E0
structure Met2 (K : PySem.W.Frag) (C : Two) (m : Str) (f : Addr) : Prop where
  cl : ∀ c, Cls K (C c)
  me : ∀ c, Meth K (C c) m f
theorem pe_mt2 {pl : Sem Bool} (M : Met2 X.K C m f) (F : At X k f sp) (hr : Room j X.A) (hk : k ≤ j) (he : PE X o ta) (ha : PA X (e :: es) t) (hst : starEach (e :: es) X.env = (false, eval e X.env) :: starEach es X.env := by rfl)
    (hpl : (backTo pos (starEach es X.env)).any (·.1) = false := by rfl)
    (ht : eval (.Call (.Attribute o m apos) (e :: es) [] pos) X.env = (do
      let ov ← eval o X.env
      standAt apos.atName
      let (f, first) ← holding [ov] (getMethod ov m pl)
      callWith pos f first (backTo pos (starEach (e :: es) X.env)) (backToKw pos (keywordEach [] X.env))) := by rfl) : PE X (.Call (.Attribute o m apos) (e :: es) [] pos) (tMeth2 C m sp ta t) := by
  refine ⟨fun pins s σ H Q I h => PySem.W.methodCall_KW (pl := pl) (thn (he.run pins s σ H _ I h) fun u s1 z => ?_) ht⟩
  obtain ⟨x, H1, I1, rx, a, c, dx, fs, rfl, ea, l, q⟩ := z
  cases rx
  refine getmeth_ok I1 ea (M.cl c) (M.me c) l (PySem.W.callWith_K (first := [.ref a]) (h₀ := X.base) I1.ok.mod.kin (M.me c).kp (thn (ha.run pos pins s1 σ H1 _ I1 q) fun us s2 z => ?_) hst hpl)
  obtain ⟨vs, H2, I2, r, q2⟩ := z
  exact ⟨I2.kIn, run_at (vs := .ref a :: vs) F (hr.mono hk) rfl I2 (.cons rfl r) q2⟩
theorem pe_mt20 {pl : Sem Bool} (M : Met2 X.K C m f) (F : At X k f sp) (hr : Room j X.A) (hk : k ≤ j) (he : PE X o ta)
    (ht : eval (.Call (.Attribute o m apos) [] [] pos) X.env = (do
      let ov ← eval o X.env
      standAt apos.atName
      let (f, first) ← holding [ov] (getMethod ov m pl)
      callWith pos f first (backTo pos (starEach [] X.env)) (backToKw pos (keywordEach [] X.env))) := by rfl) : PE X (.Call (.Attribute o m apos) [] [] pos) (tMeth2 C m sp ta tNil) := by
  refine ⟨fun pins s σ H Q I h => PySem.W.methodCall_KW (pl := pl) (thn (he.run pins s σ H _ I h) fun u s1 z => ?_) ht⟩
  obtain ⟨x, H1, I1, rx, a, c, dx, fs, rfl, ea, l, q⟩ := z
  cases rx
  exact getmeth_ok I1 ea (M.cl c) (M.me c) l (PySem.W.callWith_K0 (first := [.ref a]) I1.kIn (M.me c).kp (run_at (vs := [.ref a]) F (hr.mono hk) rfl I1 (.cons rfl .nil) q))
def tProp2 (C : Two) (sp : Sp) (ta : TE) : TE := fun σ H Q => ta σ H fun x H1 => ∃ (a : Addr) (c : Bool) (dx : Addr) (fs : List (Str × V)), x = .ref a ∧ H1 a = some (.ins (C c) dx fs) ∧ sp [.ref a] H1 Q E0
structure Prp2 (K : PySem.W.Frag) (C : Two) (m : Str) (f : Addr) : Prop where
  cl : ∀ c, Cls K (C c)
  me : ∀ c, ∃ p, PropOf K (C c) m p f
theorem pe_prp2 (M : Prp2 X.K C m f) (F : At X k f sp) (hr : Room j X.A) (hk : k + 1 ≤ j) (he : PE X e ta) (hab : attributeBase e m X.env (eval e X.env) = eval e X.env := by rfl) : PE X (.Attribute e m pos) (tProp2 C sp ta) := by
  refine ⟨fun pins s σ H Q I h => attr_of hab (thn (he.run pins s σ H _ I h) fun u s1 z => ?_)⟩
  obtain ⟨x, H1, I1, rx, a, c, dx, fs, rfl, ea, q⟩ := z
  cases rx
  obtain ⟨p, hp⟩ := M.me c
  obtain ⟨fd, ps, F, kp, b⟩ := F.ex
  exact getprop_ok (E := E0) (dvs := []) (ds := []) I1 ea (M.cl c) hp F (hr.mono hk) b .nil (fun _ _ _ _ _ _ _ z => z.elim) q
end
end NbE

set_option Elab.async false
set_option linter.all false
set_option maxRecDepth 100000
set_option maxHeartbeats 8000000
/-! len(set(texts)) of texts that differ, however many. -/
namespace NbT
open PySem PySem.Spec PyProof.Rows L2
section
variable {prog : Program} {w : World} {A : Around} {R : Result → Shared → Prop} {I S : Addr} {fp wr : List Addr} {G : Array GenState → Array GenState → Prop} {n : Nat} {Y : Nat → Value → Prop} {T : Nat → Shared → Prop}
/-- the texts gone through, told as a set -/
abbrev Has (prog : Program) (w : World) (S : Addr) (xs : List Str) (i : Nat) (h : Heap) : Prop := h.SetOf (PySem.strKind prog w) S (fun z => (xs.take i).any (· == z)) i
theorem next_any {xs : List Str} {i : Nat} (hi : i < xs.length) (z : Str) : ((xs.take i).any (· == z) || decide (z = xs.getD i Str.empty)) = (xs.take (i + 1)).any (· == z) := by
  have e : xs.getD i Str.empty = xs[i] := by rw [List.getD_eq_getElem?_getD, List.getElem?_eq_getElem hi]; rfl
  rw [e, List.take_add_one, List.getElem?_eq_getElem hi, List.any_append]
  by_cases q : z = xs[i]
  · subst q; simp
  · have q' : (xs[i] == z) = false := beq_eq_false_iff_ne.mpr fun y => q y.symm
    simp [q, q']
theorem not_yet {xs : List Str} (nd : xs.Nodup) {i : Nat} (hi : i < xs.length) : (xs.take i).any (· == xs.getD i Str.empty) = false := by
  have e : xs.getD i Str.empty = xs[i] := by rw [List.getD_eq_getElem?_getD, List.getElem?_eq_getElem hi]; rfl
  rw [e]
  cases q : (xs.take i).any (· == xs[i]) with
  | false => rfl
  | true =>
    obtain ⟨y, hy, ey⟩ := List.any_eq_true.mp q
    rw [eq_of_beq ey] at hy
    obtain ⟨j, hj, e2⟩ := List.getElem_of_mem hy
    rw [List.length_take] at hj
    rw [List.getElem_take] at e2
    exact absurd e2 (List.pairwise_iff_getElem.mp nd j i (by omega) hi (by omega))
theorem fill (W : WalksS prog w A.in1 I fp wr G n Y T) (hSf : S ∉ fp) (xs : List Str) (nd : xs.Nodup) (hn : xs.length = n) (hb : n + 1 < scanBound) (hv : ∀ i v, Y i v → ∃ t, v = .str (xs.getD i Str.empty) t) :
    ∀ (left i : Nat) (s : Shared), i + left = n → T i s → Has prog w S xs i s.heap → (∀ s', Moved (S :: wr) G s s' → Has prog w S xs n s'.heap → R (.ok (.ret .none)) s') → codeAny (model prog w) A (.builtin "set.update.loop" ⟨[.ref S, .ref I], []⟩) R s
  | 0, i, s, hk, st, hS, fin => by
    obtain rfl : i = n := by omega
    refine codeAny_builtin (PyProof.Rows.F.entry_set_update_loop) ?_
    rw [Around.under_plainId (PyProof.Rows.F.plain_set_update_loop) _]
    refine wpAny_bind (m := pyNext (.ref I)) (W.done s _ _ st fun s' hm => wpAny_pure (fin s' (hm.mono fun b hb => List.mem_cons_of_mem _ hb) ?_))
    obtain ⟨o, es, ep, t, ho, z⟩ := hS
    exact ⟨o, es, ep, t, hm.heap S _ (fun h => hSf (W.sub _ h)) ho, z⟩
  | left + 1, i, s, hk, st, hS, fin => by
    have hi : i < n := by omega
    refine codeAny_builtin (PyProof.Rows.F.entry_set_update_loop) ?_
    rw [Around.under_plainId (PyProof.Rows.F.plain_set_update_loop) _]
    refine wpAny_bind (m := pyNext (.ref I)) (W.item i s _ _ hi st fun v s1 hP st1 hm => ?_)
    obtain ⟨t, rfl⟩ := hv i v hP
    have hS1 : Has prog w S xs i s1.heap := by
      obtain ⟨o, es, ep, tb, ho, z⟩ := hS
      exact ⟨o, es, ep, tb, hm.heap S _ (fun h => hSf (W.sub _ h)) ho, z⟩
    refine wpAny_bind (m := holding [Value.str (xs.getD i Str.empty) t] (setAdd S (.str (xs.getD i Str.empty) t))) (wpAny_holding ?_)
    refine wpAny_holding (wpAny_bind ((PySem.strKind prog w).pyHash (k := xs.getD i Str.empty) (strKind_is _ _ _ _) ?_))
    refine wpAny_setAddHashed_of (knd := PySem.strKind prog w) (s := { s1 with toks := s1.toks + 1 }) (strKind_is _ _ _ _) rfl hS1 (by omega) fun h2 only hS2 => ?_
    have hS3 : Has prog w S xs (i + 1) h2 := SetOf_congr hS2 (fun z => next_any (by omega) z) (by rw [not_yet nd (show i < xs.length by omega)]; simp)
    refine wpAny_pure ⟨plainId_quiet (PyProof.Rows.F.plain_set_update_loop) _, fill W hSf xs nd hn hb hv left (i + 1) _ (by omega) (W.frame _ s1 _ _ st1 (Nat.le_succ _) fun b hb o e => ?_) hS3 fun s'' hm2 hS'' => fin s'' (Moved.trans W.gtrans ((hm.mono fun b hb => List.mem_cons_of_mem _ hb).then_heap (Nat.le_succ _) fun b o hb e => ?_) hm2) hS''⟩
    · rw [only.2 b (fun z => hSf (z ▸ hb))]; exact e
    · rw [only.2 b (fun z => hb (z ▸ List.mem_cons_self ..))]; exact e
end
section
variable {prog : Program} {w : World} {A : Around} {E : Value → Shared → Prop} {s : Shared}
theorem strs_at : ∀ {us : List Value} {xs : List Str}, Vals (xs.map V.str) us → ∀ (i : Nat) (v : Value), us[i]? = some v → ∃ t, v = .str (xs.getD i Str.empty) t
  | _, [], .nil, i, v, h => by simp at h
  | _, x :: xs, .cons r t, 0, v, h => by
    obtain ⟨k, rfl⟩ := r
    simp at h
    exact ⟨k, h.symm⟩
  | _, x :: xs, .cons r t, i + 1, v, h => strs_at t i v (by simpa using h)
theorem set_of {l : Addr} {items : Array Value} {xs : List Str} {Q : Value → Shared → Prop} (hh : A.handled = none) (hl : s.heap.IsList l items) (hi : Vals (xs.map V.str) items.toList) (nd : xs.Nodup) (hb : items.size + 1 < scanBound)
    (h : ∀ (h' : Heap) (tk : Nat), Has prog w s.heap.objs.size xs items.size h' → (∀ b o, b < s.heap.objs.size → s.heap.get? b = some o → h'.get? b = some o) → Q (.ref s.heap.objs.size) { s with heap := h', toks := tk }) :
    wpAny (model prog w) A (call (.type "set") [.ref l]) Q E s := by
  obtain ⟨c, tl, hmro⟩ := PySem.F.called_set.mro
  have m1 := PySem.F.called_set.made
  have m2 := PySem.F.called_set.sub
  have m3 := PySem.F.called_set.notType
  have m4 := PySem.F.called_set.canCreate
  have m5 := PySem.F.typeCall_set_1 (.ref l)
  refine wpAny_call (codeAny_of_tree ?_)
  show wpAny _ _ (callAny (.type "set") ⟨[.ref l], []⟩) _ _ _
  refine wpAny_pure ⟨Code.quiet_builtin _ (by decide +kernel), codeAny_builtin (PySem.F.entry_type_call) ?_⟩
  rw [Around.under_plain (weight_type_call_type "set" [.ref l] []) rfl]
  repeat (any_goals (first | assumption | wp_step))
  let empty : Bool → Obj := fun led => { cls := .type "set", dict := none, data := .set #[] 0 (.fresh 0 0 led) }
  refine codeAny_mono (code_set_new_1 (.ref l) (E := E) (Q₁ := fun ob s1 => ∃ led : Bool, ob = .ref s.heap.objs.size ∧ s1 = { s with heap := s.heap.push (empty led) }) fun led => ⟨led, rfl, rfl⟩) fun r s1 hr => ?_
  cases r with
  | error e => exact hr
  | ok fl => cases fl with
    | ret ob =>
      obtain ⟨led, rfl, rfl⟩ := hr
      have at0 : (s.heap.push (empty led)).get? s.heap.objs.size = some (empty led) := Heap.get?_push_size _ rfl
      have ty : Shared.TypeIs { s with heap := s.heap.push (empty led) } (.ref s.heap.objs.size) "set" := ⟨_, at0, rfl⟩
      have m6 := PySem.F.called_set.init.lookup
      have m7 := PySem.F.called_set.init.bind (.ref s.heap.objs.size)
      repeat (any_goals (first | assumption | wp_step))
      refine codeAny_mono (codeAny_call_builtin (R := wants (fun r s2 => r = .none ∧ ∃ h' tk, s2 = { s with heap := h', toks := tk } ∧ Has prog w s.heap.objs.size xs items.size h' ∧ (∀ b o, b < s.heap.objs.size → s.heap.get? b = some o → h'.get? b = some o)) E)
        PySem.F.called_set.init.plain PySem.F.entry_set_init (check_set_init_1 ty ?_)) fun r2 s2 hr2 => ?_
      · obtain ⟨⟨oc, od, da, sl⟩, ho, hc, nl, hd⟩ := hl
        simp only at hc hd
        subst hc hd
        have at1 : (s.heap.push (empty led)).get? l = some { cls := .type "list", dict := od, data := .seq items nl, slots := sl } := Heap.get?_push_of_some _ ho
        have k1 := PySem.F.sub_list_set
        have k2 := PySem.F.sub_list_frozenset
        have k3 : (Value.type "list" == Value.type "dict") = false := by decide
        have isl : (s.heap.push (empty led)).IsList l items := ⟨_, at1, rfl, nl, rfl⟩
        unfold Builtin.«set.__init__» noKeywords Builtin.Frozenset.updateFrom
        generalize hPI : pyIter = PI
        wp_walk
        subst hPI
        have lts : l < s.heap.objs.size := Heap.lt_size ho
        have psz : (s.heap.push (empty led)).objs.size = s.heap.objs.size + 1 := Heap.size_push _ _
        refine wpAny_pyIter_list isl (wpAny_bind (wpAny_runValue ?_))
        refine fill ((Walks.list (show A.in1.in1.in1.handled = none by simp [hh]) _ l (by rw [psz]; exact Nat.ne_of_lt (Nat.lt_succ_of_lt lts)) items).toS)
          (by rw [psz]; simp only [List.mem_cons, List.mem_singleton, List.not_mem_nil, or_false, not_or]; exact ⟨Nat.ne_of_lt (Nat.lt_succ_self _), Nat.ne_of_gt lts⟩)
          xs nd (by rw [← Array.length_toList, ← hi.length, List.length_map]) hb (fun i v hv => strs_at hi i v (by rw [Array.getElem?_toList]; exact hv)) items.size 0 _ (Nat.zero_add _) ⟨⟨_, Heap.get?_push_size _ rfl, rfl, rfl⟩, isl.push _⟩ ?start ?stop
        case start =>
          have at2 : ((s.heap.push (empty led)).push { cls := .type "list_iterator", data := .fields #[.ref l, .int 0 0] }).get? s.heap.objs.size = some (empty led) := Heap.get?_push_of_some _ at0
          exact SetOf_congr ((setObjOf_fresh (knd := PySem.strKind prog w) led).setOf at2 (by unfold scanBound; omega)) (fun _ => rfl) rfl
        case stop =>
          rintro ⟨h', g', d', tk', os'⟩ hm hS'
          obtain rfl : g' = s.gens := hm.gens
          obtain rfl : d' = s.drawn := hm.drawn
          obtain rfl : os' = s.os := hm.os
          refine wpAny_pure ?_
          show wpAny _ _ (ret Value.none) _ _ _
          refine wpAny_pure ⟨rfl, h', tk', rfl, hS', fun b o hb e => hm.heap b o ?_ (Heap.get?_push_of_some _ (Heap.get?_push_of_some _ e))⟩
          rw [psz]
          simp only [List.mem_cons, List.mem_singleton, List.not_mem_nil, or_false, not_or]
          exact ⟨Nat.ne_of_lt hb, Nat.ne_of_lt (Nat.lt_succ_of_lt hb)⟩
      · cases r2 with
        | error e => exact hr2
        | ok fl2 => cases fl2 with
          | ret r =>
            obtain ⟨rfl, h', tk, rfl, z1, z2⟩ := hr2
            repeat (any_goals (first | assumption | wp_step))
            exact h _ _ z1 z2
          | _ => exact hr2.elim
    | _ => exact hr.elim
end
section
variable {X : Cx} {a : Expr} {ta : TE} {p p2 q pos : Pos}
def tLenSetS (K : PySem.W.Frag) (ta : TE) : TE := fun σ H Q => ta σ H fun x H1 => ∃ (l : Addr) (xs : List Str), x = .ref l ∧ SqL K H1 l (xs.map V.str) ∧ xs.Nodup ∧ xs.length ≤ 4000 ∧ Q (.int (xs.length : Nat)) H1
theorem pe_lenSetS (hc : X.calm = true) (hg : Gl X "len") (hm : X.mg "len" = none) (hg2 : Gl X "set") (hm2 : X.mg "set" = none) (ha : PE X a ta) (na : starEach [a] X.env = (false, eval a X.env) :: starEach [] X.env := by rfl) :
    PE X (.Call (.Name "len" p) [.Call (.Name "set" p2) [a] [] q] [] pos) (tLenSetS X.K ta) := by
  refine ⟨fun pins s σ H Q I h => Call_ (ld_blt I hg hm boot_len (callWith_builtin1 (args_cons ?_ rfl) rfl rfl))⟩
  refine Call_ (ld_blt I hg2 hm2 boot_set (callWith_type1 (args_cons (thn (ha.run pins s σ H _ I h) fun v s1 z => args_nil ?_) na) na rfl))
  obtain ⟨x, H1, I1, r1, l, xs, rfl, hq, nd, hl, q1⟩ := z
  cases r1
  obtain ⟨its, r, pl, hz⟩ := I1.list hq
  have sz : its.toArray.size = xs.length := by rw [List.size_toArray, ← r.length, List.length_map]
  refine set_of (I1.ok.hd hc) pl.isList (by simpa using r) nd (by rw [sz]; unfold scanBound; omega) fun h' tk hS hk => args_nil ?_
  rw [sz] at hS
  obtain ⟨o, es, ep, t, ho, hex, hd, _, _, _, hf, hn⟩ := hS
  have I2 : Inv X pins σ H1 { s1 with heap := h', toks := tk } := I1.kept fun b o e => hk b o (Heap.lt_size e) e
  exact call_len_set ho hex hd hf (by rw [hn]; omega) ⟨.int xs.length, H1, I2.tok _, ⟨_, by rw [hn]⟩, q1⟩
end
end NbT

set_option Elab.async false
set_option linter.all false
set_option maxRecDepth 100000
set_option maxHeartbeats 8000000
/-! sorted(set(xs)) of a list of whole numbers. -/
namespace NbU
open PySem PySem.Spec PyProof.Rows L2
section
variable {P : Program} {w : World} {A : Around} {E : Value → Shared → Prop} {s : Shared}
theorem ints_at : ∀ {us : List Value} {xs : List Int}, Vals (xs.map V.int) us → ∀ (i : Nat) (v : Value), us[i]? = some v → ∃ k t, xs[i]? = some k ∧ v = .int k t
  | _, [], .nil, i, v, h => by simp at h
  | _, x :: xs, .cons r t, 0, v, h => by
    obtain ⟨k, rfl⟩ := r
    simp at h
    exact ⟨x, k, rfl, h.symm⟩
  | _, x :: xs, .cons r t, i + 1, v, h => ints_at (us := _) t i v (by simpa using h)
theorem set_ints {l : Addr} {items : Array Value} {xs : List Int} {Q : Value → Shared → Prop} (hh : A.handled = none) (hl : s.heap.IsList l items) (hi : Vals (xs.map V.int) items.toList) (hb : xs.length + 1 < scanBound)
    (h : ∀ (h' : Heap) (tk c : Nat), SetR w h' s.heap.objs.size (fun j => decide (j ∈ xs)) c → c ≤ xs.length → (∀ b o, b < s.heap.objs.size → s.heap.get? b = some o → h'.get? b = some o) → Q (.ref s.heap.objs.size) { s with heap := h', toks := tk }) :
    wpAny (model P w) A (call (.type "set") [.ref l]) Q E s := by
  have isz : items.size = xs.length := by rw [← Array.length_toList, ← hi.length, List.length_map]
  obtain ⟨c, tl, hmro⟩ := PySem.F.called_set.mro
  have m1 := PySem.F.called_set.made
  have m2 := PySem.F.called_set.sub
  have m3 := PySem.F.called_set.notType
  have m4 := PySem.F.called_set.canCreate
  have m5 := PySem.F.typeCall_set_1 (.ref l)
  refine wpAny_call (codeAny_of_tree ?_)
  show wpAny _ _ (callAny (.type "set") ⟨[.ref l], []⟩) _ _ _
  refine wpAny_pure ⟨Code.quiet_builtin _ (by decide +kernel), codeAny_builtin (PySem.F.entry_type_call) ?_⟩
  rw [Around.under_plain (weight_type_call_type "set" [.ref l] []) rfl]
  repeat (any_goals (first | assumption | wp_step))
  let empty : Obj := { cls := .type "set", dict := none, data := .set #[] 0 (.fresh 0 0 (!w.params.followText "set-order")) }
  refine codeAny_mono (code_set_led1 (.ref l) (E := E) (Q₁ := fun ob s1 => ob = .ref s.heap.objs.size ∧ s1 = { s with heap := s.heap.push empty }) ⟨rfl, rfl⟩) fun r s1 hr => ?_
  cases r with
  | error e => exact hr
  | ok fl => cases fl with
    | ret ob =>
      obtain ⟨rfl, rfl⟩ := hr
      have at0 : (s.heap.push empty).get? s.heap.objs.size = some empty := Heap.get?_push_size _ rfl
      have ty : Shared.TypeIs { s with heap := s.heap.push empty } (.ref s.heap.objs.size) "set" := ⟨_, at0, rfl⟩
      have m6 := PySem.F.called_set.init.lookup
      have m7 := PySem.F.called_set.init.bind (.ref s.heap.objs.size)
      repeat (any_goals (first | assumption | wp_step))
      refine codeAny_mono (codeAny_call_builtin (R := wants (fun r s2 => r = .none ∧ ∃ h' tk c, s2 = { s with heap := h', toks := tk } ∧ SetR w h' s.heap.objs.size (fun j => decide (j ∈ xs)) c ∧ c ≤ xs.length ∧ (∀ b o, b < s.heap.objs.size → s.heap.get? b = some o → h'.get? b = some o)) E)
        PySem.F.called_set.init.plain PySem.F.entry_set_init (check_set_init_1 ty ?_)) fun r2 s2 hr2 => ?_
      · obtain ⟨⟨oc, od, da, sl⟩, ho, hc, nl, hd⟩ := hl
        simp only at hc hd
        subst hc hd
        have at1 : (s.heap.push empty).get? l = some { cls := .type "list", dict := od, data := .seq items nl, slots := sl } := Heap.get?_push_of_some _ ho
        have k1 := PySem.F.sub_list_set
        have k2 := PySem.F.sub_list_frozenset
        have k3 : (Value.type "list" == Value.type "dict") = false := by decide
        have isl : (s.heap.push empty).IsList l items := ⟨_, at1, rfl, nl, rfl⟩
        unfold Builtin.«set.__init__» noKeywords Builtin.Frozenset.updateFrom
        generalize hPI : pyIter = PI
        wp_walk
        subst hPI
        have lts : l < s.heap.objs.size := Heap.lt_size ho
        have psz : (s.heap.push empty).objs.size = s.heap.objs.size + 1 := Heap.size_push _ _
        refine wpAny_pyIter_list isl (wpAny_bind (wpAny_runValue ?_))
        refine set_update_ints ((Walks.list (show A.in1.in1.in1.handled = none by simp [hh]) _ l (by rw [psz]; exact Nat.ne_of_lt (Nat.lt_succ_of_lt lts)) items).toS) s.heap.objs.size
          (by rw [psz]; simp only [List.mem_cons, List.mem_singleton, List.not_mem_nil, or_false, not_or]; exact ⟨Nat.ne_of_lt (Nat.lt_succ_self _), Nat.ne_of_gt lts⟩)
          xs isz hb (fun i v hv => ints_at hi i v (by rw [Array.getElem?_toList]; exact hv)) (items.size - 0) 0 _ (by omega) (Nat.zero_le _) ⟨⟨_, Heap.get?_push_size _ rfl, rfl, rfl⟩, isl.push _⟩ ?start ?stop
        case start =>
          have at2 : ((s.heap.push empty).push { cls := .type "list_iterator", data := .fields #[.ref l, .int 0 0] }).get? s.heap.objs.size = some empty := Heap.get?_push_of_some _ at0
          exact ⟨0, Nat.le_refl 0, setR_new_at at2⟩
        case stop =>
          rintro ⟨h', g', d', tk', os'⟩ c hm hc hS'
          obtain rfl : g' = s.gens := hm.gens
          obtain rfl : d' = s.drawn := hm.drawn
          obtain rfl : os' = s.os := hm.os
          refine wpAny_pure ?_
          show wpAny _ _ (ret Value.none) _ _ _
          rw [isz] at hc
          refine wpAny_pure ⟨rfl, h', tk', c, rfl, hS', hc, fun b o hb e => hm.heap b o ?_ (Heap.get?_push_of_some _ (Heap.get?_push_of_some _ e))⟩
          rw [psz]
          simp only [List.mem_cons, List.mem_singleton, List.not_mem_nil, or_false, not_or]
          exact ⟨Nat.ne_of_lt hb, Nat.ne_of_lt (Nat.lt_succ_of_lt hb)⟩
      · cases r2 with
        | error e => exact hr2
        | ok fl2 => cases fl2 with
          | ret r =>
            obtain ⟨rfl, h', tk, c, rfl, z1, z2, z3⟩ := hr2
            repeat (any_goals (first | assumption | wp_step))
            exact h _ _ _ z1 z2 z3
          | _ => exact hr2.elim
    | _ => exact hr.elim
end
section
variable {X : Cx}
/-- set(xs) of a list of whole numbers -/
def rSetI (K : PySem.W.Frag) (w : World) : List V → Hp → VK → Prop := fun vs H Q => ∃ (a : Addr) (ns : List Int), vs = [.ref a] ∧ SqL K H a (ns.map V.int) ∧ ns.length ≤ 4000 ∧ ∀ (p : Addr) (c : Nat), c ≤ ns.length → H p = none → Q (.ref p) (upd H p (SetO w p (fun j => decide (j ∈ ns)) c))
theorem cr_setI (hc : X.calm = true) : CallR X (.type "set") (rSetI X.K X.w) := by
  intro pins s σ H vs us Q I r h
  obtain ⟨a, ns, rfl, hs, hl, q⟩ := h
  obtain ⟨its, rv, pl, hz⟩ := I.list hs
  rw [Vals.ref1 r]
  refine set_ints (I.ok.hd hc) pl.isList (by simpa using rv) (by unfold scanBound; omega) fun h' tk c hS hn hk => ?_
  exact ⟨.ref _, upd H s.heap.objs.size (SetO X.w s.heap.objs.size (fun j => decide (j ∈ ns)) c), I.laid (t' := tk) (fun b u e => hk b u (Heap.lt_size e) e) (Nat.le_refl _) (setO_new hS), rfl, q _ c hn (I.hok.fresh (Nat.le_refl _))⟩
end
end NbU

set_option Elab.async false
set_option linter.all false
set_option maxRecDepth 100000
set_option maxHeartbeats 4000000
/-! What the package's objects are, and what its defs promise (no text here). -/
namespace NbS
open PySem PySem.Spec PyProof.Rows L2 Nb NbE

abbrev CL (K : PySem.W.Frag) : Addr := He.ga K "Log"
abbrev CO (K : PySem.W.Frag) : Addr := He.ga K "LosingLog"
/-- the two classes: losing or not -/
def C2 (K : PySem.W.Frag) : Two := fun b => if b then CO K else CL K
def kindS (b : Bool) : Str := if b then "losing" else "steady"

/-! ### kinds of values -/
inductive Kd | non | bl | int | str | lst | tup | dct | log (los : Bool)
  deriving DecidableEq
inductive Knd (K : PySem.W.Frag) (H : Hp) : V → Kd → Prop
  | non : Knd K H .non .non
  | bl (b : Bool) : Knd K H (.bl b) .bl
  | int (i : Int) : Knd K H (.int i) .int
  | str (x : Str) : Knd K H (.str x) .str
  | lst {a : Addr} {xs : List V} (e : H a = some (.lst xs)) : Knd K H (.ref a) .lst
  | tup {a : Addr} {xs : List V} (e : H a = some (.tup xs)) : Knd K H (.ref a) .tup
  | dct {a : Addr} {kvs : List (Key × V)} (e : H a = some (.dK kvs)) : Knd K H (.ref a) .dct
  | log {a dx : Addr} {los : Bool} {fs : List (Str × V)} (e : H a = some (.ins (C2 K los) dx fs)) : Knd K H (.ref a) (.log los)
def tyN : Kd → String
  | .non => "NoneType" | .bl => "bool" | .int => "int" | .str => "str" | .lst => "list" | .tup => "tuple" | .dct => "dict" | .log _ => ""
/-- the type as a value -/
def tyV' (K : PySem.W.Frag) : Kd → Value
  | .log b => .ref (C2 K b)
  | d => .type (tyN d)
/-- isinstance with a built-in class -/
def isB (d : Kd) (c : String) : Bool := tyN d == c || (d == .bl && c == "int")
/-- what the classes must be -/
structure LF (K : PySem.W.Frag) : Prop where
  cl : ∀ b, Cls K (C2 K b)
  nS : ∀ b, NoAttr K (C2 K b) "_size"
  nV : ∀ b, NoAttr K (C2 K b) "_servers"
  nE : ∀ b, NoAttr K (C2 K b) "_entries"
  ca : ∀ b, PySem.W.findIn K (.ref (C2 K b)) "__class__" = some (some (.builtin "object.__class__"))
  cn : PySem.W.specialIn K (.builtin "object.__class__") "__get__" = some (some (.builtin "getset_descriptor.__get__"))
  ct : PySem.W.takesIn K (.builtin "object.__class__") = some true
  cm : ∀ b, PySem.W.mroIn K (C2 K b) (.type "object") = some true
  kB : ∀ b, PySem.W.kitOne K (.ref (C2 K b)) (.type "int") = some false ∧ PySem.W.kitOne K (.ref (C2 K b)) (.type "bool") = some false ∧ PySem.W.kitOne K (.ref (C2 K b)) (.type "str") = some false ∧
    PySem.W.kitOne K (.ref (C2 K b)) (.type "list") = some false ∧ PySem.W.kitOne K (.ref (C2 K b)) (.type "tuple") = some false
  kT : ∀ b, PySem.W.kitOne K (.type "NoneType") (.ref (C2 K b)) = some false ∧ PySem.W.kitOne K (.type "bool") (.ref (C2 K b)) = some false ∧ PySem.W.kitOne K (.type "int") (.ref (C2 K b)) = some false ∧ PySem.W.kitOne K (.type "str") (.ref (C2 K b)) = some false ∧
    PySem.W.kitOne K (.type "list") (.ref (C2 K b)) = some false ∧ PySem.W.kitOne K (.type "tuple") (.ref (C2 K b)) = some false ∧ PySem.W.kitOne K (.type "dict") (.ref (C2 K b)) = some false
  k10 : PySem.W.kitOne K (.ref (C2 K true)) (.ref (C2 K false)) = some true
  k01 : PySem.W.kitOne K (.ref (C2 K false)) (.ref (C2 K true)) = some false
  sT : ∀ b, PySem.W.subIn K (.type "NoneType") (.ref (C2 K b)) = some false ∧ PySem.W.subIn K (.type "bool") (.ref (C2 K b)) = some false ∧ PySem.W.subIn K (.type "int") (.ref (C2 K b)) = some false ∧ PySem.W.subIn K (.type "str") (.ref (C2 K b)) = some false ∧
    PySem.W.subIn K (.type "list") (.ref (C2 K b)) = some false ∧ PySem.W.subIn K (.type "tuple") (.ref (C2 K b)) = some false ∧ PySem.W.subIn K (.type "dict") (.ref (C2 K b)) = some false
  s10 : PySem.W.subIn K (.ref (C2 K true)) (.ref (C2 K false)) = some true
  s01 : PySem.W.subIn K (.ref (C2 K false)) (.ref (C2 K true)) = some false
  ne : C2 K true ≠ C2 K false
  con : ∀ b, ∃ u, Con K (C2 K b) "KIND" (.str (kindS b)) u
  rd : ∀ b, ClX.CRead K (C2 K b) (.type "type")
  cv : ∀ b, ∃ u, ClX.CVal K (C2 K b) (.type "type") "KIND" (.str (kindS b)) u
theorem kit_same (K : PySem.W.Frag) (t : Value) : PySem.W.kitOne K t t = some true := by
  unfold PySem.W.kitOne
  rw [if_pos (by simp)]
section
variable {K : PySem.W.Frag} {H H' : Hp} {x : V} {d : Kd}
theorem Knd.ty (F : LF K) (k : Knd K H x d) : TyX K H x (tyV' K d) := by
  cases k with
  | non => exact .base .non
  | bl b => exact .base (.bl b)
  | int i => exact .base (.int i)
  | str x => exact .base (.str x)
  | lst e => exact .base (.lst e)
  | tup e => exact .base (.tup e)
  | dct e => exact .base (.dK e)
  | @log a dx los fs e => exact .base (.ins e (F.cl los) (F.ca los) F.cn F.ct (F.cm los))
theorem Knd.same (e : Same H H') (k : Knd K H x d) : Knd K H' x d := by
  cases k with
  | non => exact .non
  | bl b => exact .bl b
  | int i => exact .int i
  | str x => exact .str x
  | lst h => exact .lst (e _ _ h)
  | tup h => exact .tup (e _ _ h)
  | dct h => exact .dct (e _ _ h)
  | log h => exact .log (e _ _ h)
theorem kit_b {a b : String} {r : Bool} (h : kitB a b = some r) : PySem.W.kitOne K (.type a) (.type b) = some r := h
theorem Knd.kit (F : LF K) (d : Kd) {c : String} (hc : c = "int" ∨ c = "bool" ∨ c = "str" ∨ c = "list" ∨ c = "tuple") : PySem.W.kitOne K (tyV' K d) (.type c) = some (isB d c) := by
  cases d with
  | log b =>
    obtain ⟨k1, k2, k3, k4, k5⟩ := F.kB b
    rcases hc with rfl | rfl | rfl | rfl | rfl
    · exact k1
    · exact k2
    · exact k3
    · exact k4
    · exact k5
  | _ => rcases hc with rfl | rfl | rfl | rfl | rfl <;> exact kit_ty (by decide +kernel)
/-- isinstance(x, T), T a built-in class -/
theorem isi_b (F : LF K) (k : Knd K H x d) {c : String} (hc : c = "int" ∨ c = "bool" ∨ c = "str" ∨ c = "list" ∨ c = "tuple") {Q : VK} (q : Q (.bl (isB d c)) H) : rIsi K [x, .ty c] H Q :=
  ⟨x, .ty c, _, _, _, rfl, .ty c, k.ty F, Knd.kit F d hc, q⟩
def isLogOf (d : Kd) (b : Bool) : Bool := match d with
  | .log c => !b || c
  | _ => false
theorem Knd.kitL (F : LF K) (d : Kd) (b : Bool) : PySem.W.kitOne K (tyV' K d) (.ref (C2 K b)) = some (isLogOf d b) := by
  obtain ⟨k1, k2, k3, k4, k5, k6, k7⟩ := F.kT b
  cases d with
  | non => exact k1
  | bl => exact k2
  | int => exact k3
  | str => exact k4
  | lst => exact k5
  | tup => exact k6
  | dct => exact k7
  | log c =>
    cases c <;> cases b
    · exact kit_same K _
    · exact F.k01
    · exact F.k10
    · exact kit_same K _
/-- isinstance(x, Log), isinstance(x, LosingLog) -/
theorem isi_l (F : LF K) (k : Knd K H x d) (b : Bool) {Q : VK} (q : Q (.bl (isLogOf d b)) H) : rIsi K [x, .ref (C2 K b)] H Q :=
  ⟨x, .ref (C2 K b), _, _, _, rfl, .own _, k.ty F, Knd.kitL F d b, q⟩
theorem Knd.not1st (F : LF K) (d : Kd) (c : Bool) (h : ¬ (c = false ∧ d = .log true)) : PySem.W.notFirst K (C2 K c) (tyV' K d) = true := by
  obtain ⟨k1, k2, k3, k4, k5, k6, k7⟩ := F.sT c
  unfold PySem.W.notFirst
  rw [Bool.or_eq_true]
  cases d with
  | non => exact .inr (beq_iff_eq.mpr k1)
  | bl => exact .inr (beq_iff_eq.mpr k2)
  | int => exact .inr (beq_iff_eq.mpr k3)
  | str => exact .inr (beq_iff_eq.mpr k4)
  | lst => exact .inr (beq_iff_eq.mpr k5)
  | tup => exact .inr (beq_iff_eq.mpr k6)
  | dct => exact .inr (beq_iff_eq.mpr k7)
  | log b =>
    cases b <;> cases c
    · exact .inl (beq_self_eq_true _)
    · exact .inr (beq_iff_eq.mpr F.s01)
    · exact absurd ⟨rfl, rfl⟩ h
    · exact .inl (beq_self_eq_true _)
end

/-! ### texts as names -/
def nameOk (z : Str) : Bool := decide (z.length ≤ 8) && (Txt.isascii z && (Txt.isalpha z && Txt.islower z))
structure Crew (ns : List Str) : Prop where
  few : 1 ≤ ns.length ∧ ns.length ≤ 12
  nd : ns.Nodup
  ok : ∀ z ∈ ns, nameOk z = true

/-! ### entries, logs -/
abbrev En := Str × Int
def Ents (H : Hp) : List Addr → List En → Prop
  | [], [] => True
  | t :: ts, e :: es => H t = some (.tup [.str e.1, .int e.2]) ∧ Ents H ts es
  | _, _ => False
/-- a list of entries at s -/
def EntsAt (H : Hp) (s : Addr) (es : List En) : Prop := ∃ ts, H s = some (.lst (ts.map V.ref)) ∧ Ents H ts es
def CrewAt (H : Hp) (c : Addr) (ns : List Str) : Prop := H c = some (.lst (ns.map V.str))
def fsL (z : Int) (ls le : Addr) : List (Str × V) := [("_size", .int z), ("_servers", .ref ls), ("_entries", .ref le)]
theorem fsL_put (z : Int) (ls le : Addr) : putF "_entries" (.ref le) (putF "_servers" (.ref ls) (putF "_size" (.int z) [])) = fsL z ls le := by
  have h1 : ¬ (("_size" : Str) = "_servers") := by decide +kernel
  have h2 : ¬ (("_size" : Str) = "_entries") := by decide +kernel
  have h3 : ¬ (("_servers" : Str) = "_entries") := by decide +kernel
  simp only [putF, if_neg h1, if_neg h2, if_neg h3]
  rfl
theorem fsL_size (z : Int) (ls le : Addr) : (fsL z ls le).lookup ("_size" : Str) = some (.int z) := by
  unfold fsL
  rw [List.lookup_cons, show (("_size" : Str) == ("_size" : Str)) = true by decide +kernel]
theorem fsL_servers (z : Int) (ls le : Addr) : (fsL z ls le).lookup ("_servers" : Str) = some (.ref ls) := by
  unfold fsL
  rw [List.lookup_cons, show (("_servers" : Str) == ("_size" : Str)) = false by decide +kernel, List.lookup_cons, show (("_servers" : Str) == ("_servers" : Str)) = true by decide +kernel]
theorem fsL_entries (z : Int) (ls le : Addr) : (fsL z ls le).lookup ("_entries" : Str) = some (.ref le) := by
  unfold fsL
  rw [List.lookup_cons, show (("_entries" : Str) == ("_size" : Str)) = false by decide +kernel, List.lookup_cons, show (("_entries" : Str) == ("_servers" : Str)) = false by decide +kernel, List.lookup_cons,
    show (("_entries" : Str) == ("_entries" : Str)) = true by decide +kernel]
theorem fsL_no {m : Str} (h1 : (m == ("_size" : Str)) = false) (h2 : (m == ("_servers" : Str)) = false) (h3 : (m == ("_entries" : Str)) = false) (z : Int) (ls le : Addr) : (fsL z ls le).lookup m = none := by
  unfold fsL
  rw [List.lookup_cons, h1, List.lookup_cons, h2, List.lookup_cons, h3]
  rfl
def enOk (ns : List Str) (e : En) : Bool := decide (e.1 ∈ ns) && decide (0 ≤ e.2)
def SizeOk (z : Int) : Prop := 1 ≤ z ∧ z ≤ 10 ^ 30
structure EnsOk (ns : List Str) (es : List En) : Prop where
  few : es.length ≤ 200
  ok : ∀ e ∈ es, enOk ns e = true
structure WF (z : Int) (ns : List Str) (es : List En) : Prop where
  sz : SizeOk z
  cr : Crew ns
  en : EnsOk ns es
/-- a log at p -/
def LogAt (K : PySem.W.Frag) (H : Hp) (p : Addr) (b : Bool) (z : Int) (ns : List Str) (es : List En) : Prop :=
  ∃ dx ls le, H p = some (.ins (C2 K b) dx (fsL z ls le)) ∧ CrewAt H ls ns ∧ EntsAt H le es ∧ WF z ns es
/-- .. its own lists at ls, le -/
def LogX (K : PySem.W.Frag) (H : Hp) (p : Addr) (b : Bool) (z : Int) (ns : List Str) (es : List En) (ls le : Addr) : Prop :=
  ∃ dx, H p = some (.ins (C2 K b) dx (fsL z ls le)) ∧ CrewAt H ls ns ∧ EntsAt H le es ∧ WF z ns es
theorem LogX.log {K : PySem.W.Frag} {H : Hp} {p : Addr} {b : Bool} {z : Int} {ns : List Str} {es : List En} {ls le : Addr} (h : LogX K H p b z ns es ls le) : LogAt K H p b z ns es := by
  obtain ⟨dx, h1, h2, h3, h4⟩ := h
  exact ⟨dx, ls, le, h1, h2, h3, h4⟩
theorem Ents.len {H : Hp} : ∀ {ts : List Addr} {es : List En}, Ents H ts es → ts.length = es.length
  | [], [], _ => rfl
  | _ :: _, _ :: _, h => by rw [List.length_cons, List.length_cons, Ents.len h.2]
  | [], _ :: _, h => h.elim
  | _ :: _, [], h => h.elim
theorem Ents.imp {H H' : Hp} (k : ∀ t xs, H t = some (.tup xs) → H' t = some (.tup xs)) : ∀ {ts : List Addr} {es : List En}, Ents H ts es → Ents H' ts es
  | [], [], _ => trivial
  | _ :: _, _ :: _, h => ⟨k _ _ h.1, Ents.imp k h.2⟩
  | [], _ :: _, h => h.elim
  | _ :: _, [], h => h.elim
theorem Ents.get {H : Hp} : ∀ {ts : List Addr} {es : List En} {i : Nat} {t : Addr}, Ents H ts es → ts[i]? = some t → ∃ e, es[i]? = some e ∧ H t = some (.tup [.str e.1, .int e.2])
  | t :: ts, e :: es, 0, _, h, g => by
    simp at g; subst g
    exact ⟨e, rfl, h.1⟩
  | t :: ts, e :: es, i + 1, _, h, g => by
    obtain ⟨e', h1, h2⟩ := Ents.get h.2 (by simpa using g)
    exact ⟨e', by simpa using h1, h2⟩
  | [], [], _, _, _, g => by simp at g
  | [], _ :: _, _, _, h, _ => h.elim
  | _ :: _, [], _, _, h, _ => h.elim
theorem Ents.get' {H : Hp} : ∀ {ts : List Addr} {es : List En} {i : Nat} {e : En}, Ents H ts es → es[i]? = some e → ∃ t, ts[i]? = some t ∧ H t = some (.tup [.str e.1, .int e.2])
  | t :: ts, e :: es, 0, _, h, g => by
    simp at g; subst g
    exact ⟨t, rfl, h.1⟩
  | t :: ts, e :: es, i + 1, _, h, g => by
    obtain ⟨e', h1, h2⟩ := Ents.get' h.2 (by simpa using g)
    exact ⟨e', by simpa using h1, h2⟩
  | [], [], _, _, _, g => by simp at g
  | [], _ :: _, _, _, h, _ => h.elim
  | _ :: _, [], _, _, h, _ => h.elim
theorem Ents.app {H : Hp} {t : Addr} {e : En} (ht : H t = some (.tup [.str e.1, .int e.2])) : ∀ {ts : List Addr} {es : List En}, Ents H ts es → Ents H (ts ++ [t]) (es ++ [e])
  | [], [], _ => ⟨ht, trivial⟩
  | _ :: _, _ :: _, h => ⟨h.1, Ents.app ht h.2⟩
  | [], _ :: _, h => h.elim
  | _ :: _, [], h => h.elim
theorem Ents.cat {H : Hp} : ∀ {ts : List Addr} {es : List En} {ts' : List Addr} {es' : List En}, Ents H ts es → Ents H ts' es' → Ents H (ts ++ ts') (es ++ es')
  | [], [], _, _, _, h => h
  | _ :: _, _ :: _, _, _, h, h' => ⟨h.1, Ents.cat h.2 h'⟩
  | [], _ :: _, _, _, h, _ => h.elim
  | _ :: _, [], _, _, h, _ => h.elim
theorem Ents.take {H : Hp} : ∀ {ts : List Addr} {es : List En} (n : Nat), Ents H ts es → Ents H (ts.take n) (es.take n)
  | _, _, 0, _ => by simp [Ents]
  | [], [], _ + 1, _ => by simp [Ents]
  | _ :: _, _ :: _, n + 1, h => ⟨h.1, Ents.take n h.2⟩
  | [], _ :: _, _ + 1, h => h.elim
  | _ :: _, [], _ + 1, h => h.elim
theorem Ents.drop {H : Hp} : ∀ {ts : List Addr} {es : List En} (n : Nat), Ents H ts es → Ents H (ts.drop n) (es.drop n)
  | _, _, 0, h => h
  | [], [], _ + 1, _ => by simp [Ents]
  | _ :: _, _ :: _, n + 1, h => Ents.drop n h.2
  | [], _ :: _, _ + 1, h => h.elim
  | _ :: _, [], _ + 1, h => h.elim
theorem Ents.set {H : Hp} {t : Addr} {e : En} (ht : H t = some (.tup [.str e.1, .int e.2])) : ∀ {ts : List Addr} {es : List En} (n : Nat), Ents H ts es → Ents H (ts.set n t) (es.set n e)
  | [], [], _, h => h
  | _ :: _, _ :: _, 0, h => ⟨ht, h.2⟩
  | _ :: _, _ :: _, n + 1, h => ⟨h.1, Ents.set ht n h.2⟩
  | [], _ :: _, _, h => h.elim
  | _ :: _, [], _, h => h.elim
/-! what stays -/
section
variable {K : PySem.W.Frag} {H H' : Hp} {fa p a : Addr} {b : Bool} {z : Int} {ns : List Str} {es : List En}
theorem EntsAt.same (e : Same H H') (h : EntsAt H a es) : EntsAt H' a es := by
  obtain ⟨ts, h1, h2⟩ := h
  exact ⟨ts, e _ _ h1, h2.imp fun t xs q => e _ _ q⟩
theorem CrewAt.same (e : Same H H') (h : CrewAt H a ns) : CrewAt H' a ns := e _ _ h
theorem LogAt.same (e : Same H H') (h : LogAt K H p b z ns es) : LogAt K H' p b z ns es := by
  obtain ⟨dx, ls, le, h1, h2, h3, h4⟩ := h
  exact ⟨dx, ls, le, e _ _ h1, h2.same e, h3.same e, h4⟩
theorem ne_refs {ts : List Addr} (f : Feed H fa) (h : H a = some (.lst (ts.map V.ref))) : a ≠ fa := by
  obtain ⟨x, y, z, e⟩ := f
  rintro rfl
  rw [h] at e
  cases ts with
  | nil => cases e
  | cons t ts => cases e
theorem ne_strs (f : Feed H fa) (h : H a = some (.lst (ns.map V.str))) : a ≠ fa := by
  obtain ⟨x, y, z, e⟩ := f
  rintro rfl
  rw [h] at e
  cases ns with
  | nil => cases e
  | cons t ts => cases e
theorem ne_tup {xs : List V} (f : Feed H fa) (h : H a = some (.tup xs)) : a ≠ fa := by
  obtain ⟨x, y, z, e⟩ := f
  rintro rfl
  rw [h] at e
  cases e
theorem ne_ins {C dx : Addr} {fs : List (Str × V)} (f : Feed H fa) (h : H a = some (.ins C dx fs)) : a ≠ fa := by
  obtain ⟨x, y, z, e⟩ := f
  rintro rfl
  rw [h] at e
  cases e
theorem EntsAt.stp (f : Feed H fa) (e : Stp fa H H') (h : EntsAt H a es) : EntsAt H' a es := by
  obtain ⟨ts, h1, h2⟩ := h
  exact ⟨ts, e.kp _ _ (ne_refs f h1) h1, h2.imp fun t xs q => e.kp _ _ (ne_tup f q) q⟩
theorem CrewAt.stp (f : Feed H fa) (e : Stp fa H H') (h : CrewAt H a ns) : CrewAt H' a ns := e.kp _ _ (ne_strs f h) h
theorem LogAt.stp (f : Feed H fa) (e : Stp fa H H') (h : LogAt K H p b z ns es) : LogAt K H' p b z ns es := by
  obtain ⟨dx, ls, le, h1, h2, h3, h4⟩ := h
  exact ⟨dx, ls, le, e.kp _ _ (ne_ins f h1) h1, h2.stp f e, h3.stp f e, h4⟩
end
/-! ### data -/
def enD (e : En) : PyData := .tuple [.str e.1, .int e.2]
theorem Ents.dp {K : PySem.W.Frag} {H : Hp} : ∀ {ts : List Addr} {es : List En}, Ents H ts es → DpAll K H (ts.map V.ref) (es.map enD)
  | [], [], _ => .nil
  | _ :: _, _ :: _, h => .cons (.tup (.inl (.inl h.1)) (.cons (.str _) (.cons (.int _) .nil))) (Ents.dp h.2)
  | [], _ :: _, h => h.elim
  | _ :: _, [], h => h.elim
theorem EntsAt.dp {K : PySem.W.Frag} {H : Hp} {a : Addr} {es : List En} (h : EntsAt H a es) : Dp K H (.ref a) (.list (es.map enD)) := by
  obtain ⟨ts, h1, h2⟩ := h
  exact .lst (SqL.of h1) h2.dp
theorem strs_dp {K : PySem.W.Frag} {H : Hp} : ∀ ns : List Str, DpAll K H (ns.map V.str) (ns.map PyData.str)
  | [] => .nil
  | n :: ns => .cons (.str n) (strs_dp ns)
theorem CrewAt.dp {K : PySem.W.Frag} {H : Hp} {a : Addr} {ns : List Str} (h : CrewAt H a ns) : Dp K H (.ref a) (.list (ns.map PyData.str)) := .lst (SqL.of h) (strs_dp ns)

/-! ### the facts as truth values -/
theorem all_at {l : List Bool} (h : l.all id = true) (i : Nat) {b : Bool} (e : l[i]? = some b := by rfl) : b = true := List.all_eq_true.mp h b (List.mem_of_getElem? e)
def eqB (a b : Option Bool) : Bool := decide (a = b)
def conT (K : PySem.W.Frag) (C : Addr) (f z : Str) : Bool := match PySem.W.findIn K (.ref C) f with
  | some (some (.str y t)) => decide (y = z) && decide (PySem.W.specialIn K (.str y t) "__get__" = some none)
  | _ => false
theorem conT_ok {K : PySem.W.Frag} {C : Addr} {f z : Str} (h : conT K C f z = true) (hc : PySem.W.copiedNames.contains f = false) : ∃ u, Con K C f (.str z) u := by
  unfold conT at h
  cases e : PySem.W.findIn K (.ref C) f with
  | none => rw [e] at h; cases h
  | some o =>
    rw [e] at h
    cases o with
    | none => cases h
    | some v =>
      cases v with
      | str y t =>
        obtain ⟨h1, h2⟩ := He.ba h
        cases of_decide_eq_true h1
        exact ⟨_, e, ⟨t, rfl⟩, of_decide_eq_true h2, hc⟩
      | _ => cases h
def cvT (K : PySem.W.Frag) (C : Addr) (f z : Str) : Bool := match PySem.W.findCls K (.ref C) (.type "type") f with
  | some (.val (.str y _)) => decide (y = z)
  | _ => false
theorem cvT_ok {K : PySem.W.Frag} {C : Addr} {f z : Str} (h : cvT K C f z = true) : ∃ u, ClX.CVal K C (.type "type") f (.str z) u := by
  unfold cvT at h
  split at h
  · rename_i y t e
    cases of_decide_eq_true h
    exact ⟨_, e, ⟨t, rfl⟩⟩
  · cases h
theorem cread_at {K : PySem.W.Frag} {C : Addr} (h : PySem.W.readsIn K C (.type "type") = true) : ClX.CRead K C (.type "type") := by
  refine ⟨h, ?_⟩
  have h' := h
  unfold PySem.W.readsIn at h'
  obtain ⟨h', _⟩ := He.ba h'
  obtain ⟨h', _⟩ := He.ba h'
  obtain ⟨h', h3⟩ := He.ba h'
  obtain ⟨_, h2⟩ := He.ba h'
  unfold PySem.W.specialIn
  rw [beq_iff_eq.mp h2, Option.bind_some]
  exact beq_iff_eq.mp h3
def kitsT (K : PySem.W.Frag) (C : Addr) : List Bool :=
  ["int", "bool", "str", "list", "tuple"].map (fun c => eqB (PySem.W.kitOne K (.ref C) (.type c)) (some false)) ++
  (["NoneType", "bool", "int", "str", "list", "tuple", "dict"].map (fun c => eqB (PySem.W.kitOne K (.type c) (.ref C)) (some false)) ++
   ["NoneType", "bool", "int", "str", "list", "tuple", "dict"].map (fun c => eqB (PySem.W.subIn K (.type c) (.ref C)) (some false)))
def clsT (K : PySem.W.Frag) (x : Str) (k : Str) : List Bool :=
  [(He.Fa.cls x).ok K, (He.Fa.noat x "_size").ok K, (He.Fa.noat x "_servers").ok K, (He.Fa.noat x "_entries").ok K, He.eqO (PySem.W.findIn K (.ref (He.ga K x)) "__class__") (some (some (.builtin "object.__class__"))),
   eqB (PySem.W.mroIn K (He.ga K x) (.type "object")) (some true), conT K (He.ga K x) "KIND" k]
def lfL (K : PySem.W.Frag) : List Bool :=
  clsT K "Log" "steady" ++ (clsT K "LosingLog" "losing" ++ (kitsT K (CL K) ++ (kitsT K (CO K) ++
  [He.eqO (PySem.W.specialIn K (.builtin "object.__class__") "__get__") (some (some (.builtin "getset_descriptor.__get__"))), eqB (PySem.W.takesIn K (.builtin "object.__class__")) (some true),
   eqB (PySem.W.kitOne K (.ref (CO K)) (.ref (CL K))) (some true), eqB (PySem.W.kitOne K (.ref (CL K)) (.ref (CO K))) (some false), eqB (PySem.W.subIn K (.ref (CO K)) (.ref (CL K))) (some true), eqB (PySem.W.subIn K (.ref (CL K)) (.ref (CO K))) (some false), decide (CO K ≠ CL K),
   PySem.W.readsIn K (CL K) (.type "type"), PySem.W.readsIn K (CO K) (.type "type"), cvT K (CL K) "KIND" "steady", cvT K (CO K) "KIND" "losing"])))
theorem eqB_ok {a b : Option Bool} (h : eqB a b = true) : a = b := of_decide_eq_true h
theorem two_cases {P : Bool → Prop} (h0 : P false) (h1 : P true) : ∀ b, P b := fun b => by
  cases b
  · exact h0
  · exact h1
theorem lf_of {K : PySem.W.Frag} (h : (lfL K).all id = true) : LF K where
  cl := two_cases (He.cls_ok (all_at h 0)) (He.cls_ok (all_at h 7))
  nS := two_cases (He.noat_ok (all_at h 1)) (He.noat_ok (all_at h 8))
  nV := two_cases (He.noat_ok (all_at h 2)) (He.noat_ok (all_at h 9))
  nE := two_cases (He.noat_ok (all_at h 3)) (He.noat_ok (all_at h 10))
  ca := two_cases (He.eqO_ok (all_at h 4)) (He.eqO_ok (all_at h 11))
  cm := two_cases (eqB_ok (all_at h 5)) (eqB_ok (all_at h 12))
  con := two_cases (conT_ok (all_at h 6) (by decide +kernel)) (conT_ok (all_at h 13) (by decide +kernel))
  kB := two_cases ⟨eqB_ok (all_at h 14), eqB_ok (all_at h 15), eqB_ok (all_at h 16), eqB_ok (all_at h 17), eqB_ok (all_at h 18)⟩ ⟨eqB_ok (all_at h 33), eqB_ok (all_at h 34), eqB_ok (all_at h 35), eqB_ok (all_at h 36), eqB_ok (all_at h 37)⟩
  kT := two_cases ⟨eqB_ok (all_at h 19), eqB_ok (all_at h 20), eqB_ok (all_at h 21), eqB_ok (all_at h 22), eqB_ok (all_at h 23), eqB_ok (all_at h 24), eqB_ok (all_at h 25)⟩
    ⟨eqB_ok (all_at h 38), eqB_ok (all_at h 39), eqB_ok (all_at h 40), eqB_ok (all_at h 41), eqB_ok (all_at h 42), eqB_ok (all_at h 43), eqB_ok (all_at h 44)⟩
  sT := two_cases ⟨eqB_ok (all_at h 26), eqB_ok (all_at h 27), eqB_ok (all_at h 28), eqB_ok (all_at h 29), eqB_ok (all_at h 30), eqB_ok (all_at h 31), eqB_ok (all_at h 32)⟩
    ⟨eqB_ok (all_at h 45), eqB_ok (all_at h 46), eqB_ok (all_at h 47), eqB_ok (all_at h 48), eqB_ok (all_at h 49), eqB_ok (all_at h 50), eqB_ok (all_at h 51)⟩
  cn := He.eqO_ok (all_at h 52)
  ct := eqB_ok (all_at h 53)
  k10 := eqB_ok (all_at h 54)
  k01 := eqB_ok (all_at h 55)
  s10 := eqB_ok (all_at h 56)
  s01 := eqB_ok (all_at h 57)
  ne := of_decide_eq_true (all_at h 58)
  rd := two_cases (cread_at (all_at h 59)) (cread_at (all_at h 60))
  cv := two_cases (cvT_ok (all_at h 61)) (cvT_ok (all_at h 62))
theorem met2_of {K : PySem.W.Frag} {m : Str} (F : LF K) (h0 : Meth K (CL K) m (He.ma K (CL K) m)) (h1 : Meth K (CO K) m (He.ma K (CO K) m)) (e : He.ma K (CO K) m = He.ma K (CL K) m) : Met2 K (C2 K) m (He.ma K (CL K) m) :=
  ⟨F.cl, two_cases h0 (e ▸ h1)⟩
theorem prp2_of {K : PySem.W.Frag} {m : Str} (F : LF K) (h0 : PropOf K (CL K) m (He.ma K (CL K) m) (NbH.getterOf K "Log" m)) (h1 : PropOf K (CO K) m (He.ma K (CO K) m) (NbH.getterOf K "LosingLog" m))
    (e : NbH.getterOf K "LosingLog" m = NbH.getterOf K "Log" m) : Prp2 K (C2 K) m (NbH.getterOf K "Log" m) :=
  ⟨F.cl, two_cases ⟨_, h0⟩ ⟨_, e ▸ h1⟩⟩
theorem two_of {K : PySem.W.Frag} (F : LF K) (M : Met2 K (C2 K) "__eq__" (He.ma K (CL K) "__eq__")) (h0 : PySem.W.findIn K (.ref (CL K)) "__ne__" = some (some (.builtin "object.__ne__"))) (h1 : PySem.W.findIn K (.ref (CO K)) "__ne__" = some (some (.builtin "object.__ne__"))) :
    TwoOk K (C2 K) (He.ma K (CL K) "__eq__") := ⟨F.s10, F.ne, fun c => (M.me c).at_, (M.me false).fn, two_cases h0 h1, F.cm⟩

/-! ### what the package's defs promise -/
def natV : V → Bool
  | .int i => decide (0 ≤ i)
  | _ => false
def srvV (ns : List Str) : V → Bool
  | .str z => decide (z ∈ ns)
  | _ => false
def sp_is_integer (K : PySem.W.Frag) : Sp := fun vs H Q _ => ∃ x d, vs = [x] ∧ Knd K H x d ∧ Q (.bl (d == .int)) H
def sp_is_natural (K : PySem.W.Frag) : Sp := fun vs H Q _ => ∃ x d, vs = [x] ∧ Knd K H x d ∧ Q (.bl (natV x)) H
def sp_is_name (_ : PySem.W.Frag) : Sp := fun vs H Q _ => ∃ z : Str, vs = [.str z] ∧ z.length ≤ sizeLine ∧ Q (.bl (nameOk z)) H
def sp_is_server (K : PySem.W.Frag) : Sp := fun vs H Q _ => ∃ (c : Addr) (ns : List Str) (x : V) (d : Kd), vs = [.ref c, x] ∧ CrewAt H c ns ∧ Knd K H x d ∧ Q (.bl (srvV ns x)) H
/-- no tuple of a text and a whole number -/
def NotEn (K : PySem.W.Frag) (H : Hp) (x : V) : Prop := ∃ d, Knd K H x d ∧ (d ≠ .tup ∨ ∃ t xs, x = .ref t ∧ H t = some (.tup xs) ∧ (xs.length ≠ 2 ∨ ∃ v1 v2 d1 d2, xs = [v1, v2] ∧ Knd K H v1 d1 ∧ Knd K H v2 d2 ∧ (d1 ≠ .str ∨ d2 ≠ .int)))
def sp_is_entry (K : PySem.W.Frag) : Sp := fun vs H Q _ => ∃ (c : Addr) (ns : List Str) (x : V), vs = [.ref c, x] ∧ CrewAt H c ns ∧ ((NotEn K H x ∧ Q (.bl false) H) ∨ ∃ (t : Addr) (e : En), x = .ref t ∧ H t = some (.tup [.str e.1, .int e.2]) ∧ Q (.bl (enOk ns e)) H)
def sizeV : V → Bool
  | .int i => decide (1 ≤ i) && decide (i ≤ 10 ^ 30)
  | _ => false
def sp_is_size (K : PySem.W.Frag) : Sp := fun vs H Q _ => ∃ x d, vs = [x] ∧ Knd K H x d ∧ Q (.bl (sizeV x)) H
def sp_are_servers (_ : PySem.W.Frag) : Sp := fun vs H Q _ => ∃ (c : Addr) (ns : List Str), vs = [.ref c] ∧ CrewAt H c ns ∧ Crew ns ∧ ∀ H', Same H H' → Q (.bl true) H'
def sp_check_size (_ : PySem.W.Frag) : Sp := fun vs H Q _ => ∃ z, vs = [.int z] ∧ SizeOk z ∧ Q .non H
def sp_check_servers (_ : PySem.W.Frag) : Sp := fun vs H Q _ => ∃ (c : Addr) (ns : List Str), vs = [.ref c] ∧ CrewAt H c ns ∧ Crew ns ∧ ∀ H', Same H H' → Q .non H'
def sp_check_entries (_ : PySem.W.Frag) : Sp := fun vs H Q _ => ∃ (c s : Addr) (ns : List Str) (es : List En), vs = [.ref c, .ref s] ∧ CrewAt H c ns ∧ EntsAt H s es ∧ EnsOk ns es ∧ ∀ H', Same H H' → Q .non H'
def sp_check_server (_ : PySem.W.Frag) : Sp := fun vs H Q _ => ∃ (c : Addr) (ns : List Str) (x : Str), vs = [.ref c, .str x] ∧ CrewAt H c ns ∧ x ∈ ns ∧ Q .non H
def sp_check_number (_ : PySem.W.Frag) : Sp := fun vs H Q _ => ∃ i : Int, vs = [.int i] ∧ 0 ≤ i ∧ Q .non H
def sp_check_count (_ : PySem.W.Frag) : Sp := fun vs H Q _ => ∃ i m : Int, vs = [.int i, .int m] ∧ 0 ≤ i ∧ i ≤ m ∧ Q .non H
/-- Log's and LosingLog's making -/
def sp_Log_init (K : PySem.W.Frag) : Sp := fun vs H Q _ => ∃ (p dx : Addr) (b : Bool) (z : Int) (c s : Addr) (ns : List Str) (es : List En), vs = [.ref p, .int z, .ref c, .ref s] ∧ H p = some (.ins (C2 K b) dx []) ∧
  WF z ns es ∧ CrewAt H c ns ∧ EntsAt H s es ∧ ∀ H' ls le, (∀ a o, a ≠ p → H a = some o → H' a = some o) → LogX K H' p b z ns es ls le → H ls = none → H le = none → Q .non H'
def sp_Log_size (K : PySem.W.Frag) : Sp := fun vs H Q _ => ∃ p b z ns es, vs = [.ref p] ∧ LogAt K H p b z ns es ∧ Q (.int z) H
def sp_Log_servers (K : PySem.W.Frag) : Sp := fun vs H Q _ => ∃ p b z ns es, vs = [.ref p] ∧ LogAt K H p b z ns es ∧ ∀ a H', H a = none → Same H H' → CrewAt H' a ns → Q (.ref a) H'
def sp_Log_entries (K : PySem.W.Frag) : Sp := fun vs H Q _ => ∃ p b z ns es, vs = [.ref p] ∧ LogAt K H p b z ns es ∧ ∀ a H', H a = none → Same H H' → EntsAt H' a es → Q (.ref a) H'
def sp_Log_len (K : PySem.W.Frag) : Sp := fun vs H Q _ => ∃ p b z ns es, vs = [.ref p] ∧ LogAt K H p b z ns es ∧ Q (.int (es.length : Int)) H
/-- alike: of one kind, size and servers -/
def sp_Log_is_alike (K : PySem.W.Frag) : Sp := fun vs H Q _ => ∃ p b z ns es y d, vs = [.ref p, y] ∧ LogAt K H p b z ns es ∧ Knd K H y d ∧
  ((d ≠ .log true ∧ d ≠ .log false ∧ Q (.bl false) H) ∨ ∃ p' b' z' ns' es', y = .ref p' ∧ LogAt K H p' b' z' ns' es' ∧ Q (.bl (decide (b = b' ∧ z = z' ∧ ns = ns'))) H)
def sp_Log_eq (K : PySem.W.Frag) : Sp := fun vs H Q _ => ∃ p b z ns es y d, vs = [.ref p, y] ∧ LogAt K H p b z ns es ∧ Knd K H y d ∧
  ((d ≠ .log true ∧ d ≠ .log false ∧ Q (.bl false) H) ∨ ∃ p' b' z' ns' es', y = .ref p' ∧ LogAt K H p' b' z' ns' es' ∧ Q (.bl (decide (b = b' ∧ z = z' ∧ ns = ns' ∧ es = es'))) H)
/-- a new log: at a new place, all else stands -/
def NewLog (K : PySem.W.Frag) (H : Hp) (Q : VK) (b : Bool) (z : Int) (ns : List Str) (es : List En) : Prop := ∀ p H', H p = none → Same H H' → LogAt K H' p b z ns es → Q (.ref p) H'
def NewLogX (K : PySem.W.Frag) (H : Hp) (Q : VK) (b : Bool) (z : Int) (ns : List Str) (es : List En) : Prop := ∀ p H' ls le, H p = none → Same H H' → LogX K H' p b z ns es ls le → H ls = none → H le = none → Q (.ref p) H'
theorem NewLog.x {K : PySem.W.Frag} {H : Hp} {Q : VK} {b : Bool} {z : Int} {ns : List Str} {es : List En} (h : NewLog K H Q b z ns es) : NewLogX K H Q b z ns es := fun p H' _ _ hp e hl _ _ => h p H' hp e hl.log
def sp_new_log (K : PySem.W.Frag) : Sp := fun vs H Q _ => ∃ (b : Bool) (z : Int) (c s : Addr) (ns : List Str) (es : List En), vs = [.str (kindS b), .int z, .ref c, .ref s] ∧ WF z ns es ∧ CrewAt H c ns ∧ EntsAt H s es ∧ NewLog K H Q b z ns es
def sp_Log_front (K : PySem.W.Frag) : Sp := fun vs H Q _ => ∃ p b z ns es, ∃ n : Nat, vs = [.ref p, .int (n : Int)] ∧ LogAt K H p b z ns es ∧ n ≤ es.length ∧ NewLog K H Q b z ns (es.take n)
def sp_Log_with_entry (K : PySem.W.Frag) : Sp := fun vs H Q _ => ∃ p b z ns es, ∃ e : En, vs = [.ref p, .str e.1, .int e.2] ∧ LogAt K H p b z ns es ∧ EnsOk ns (es ++ [e]) ∧ NewLog K H Q b z ns (es ++ [e])
/-! ### what the law's common helpers promise -/
/-- the law's names -/
def N12 : List Str := ["ann", "bob", "a", "b", "cy", "zz", "abcdefgh", "ab", "x", "yvonne", "q", "annb"]
def BigP : Int := 2305843009213693951
def sp_law_feed (K : PySem.W.Frag) : Sp := fun vs H Q _ => ∃ (a : Addr) (ns : List Int) (k : Int), vs = [.ref a, .int k] ∧ SqL K H a (ns.map V.int) ∧ ns.length ≤ 63 ∧ 0 ≤ k ∧ ∀ fa H', H fa = none → Same H H' → Feed H' fa → Q (.ref fa) H'
def sp_law_pick (_ : PySem.W.Frag) : Sp := fun vs H Q _ => ∃ (fa : Addr) (n : Int), vs = [.ref fa, .int n] ∧ Feed H fa ∧ 0 < n ∧ n ≤ 10 ^ 200 ∧ ∀ (r : Int) H', 0 ≤ r → r < n → Stp fa H H' → Q (.int r) H'
def sp_law_crew (_ : PySem.W.Frag) : Sp := fun vs H Q _ => ∃ (fa : Addr) (m : Int), vs = [.ref fa, .int m] ∧ Feed H fa ∧ 0 < m ∧ m ≤ 12 ∧ ∀ c ns H', H c = none → Stp fa H H' → CrewAt H' c ns → Crew ns → ns.length ≤ m → (∀ x ∈ ns, x ∈ N12) → Q (.ref c) H'
def sp_law_entries (_ : PySem.W.Frag) : Sp := fun vs H Q _ => ∃ (fa c : Addr) (ns : List Str) (m lim : Int), vs = [.ref fa, .ref c, .int m, .int lim] ∧ Feed H fa ∧ CrewAt H c ns ∧ Crew ns ∧ 0 ≤ m ∧ m ≤ 200 ∧ 0 < lim ∧ lim ≤ 10 ^ 200 ∧
  ∀ s es H', H s = none → Stp fa H H' → EntsAt H' s es → (es.length : Int) ≤ m → (∀ e ∈ es, e.1 ∈ ns ∧ 0 ≤ e.2 ∧ e.2 < lim) → Q (.ref s) H'
def sp_law_made (K : PySem.W.Frag) : Sp := fun vs H Q _ => ∃ (b : Bool) (z : Int) (c s : Addr) (ns : List Str) (es : List En), vs = [.str (kindS b), .int z, .ref c, .ref s] ∧ WF z ns es ∧ CrewAt H c ns ∧ EntsAt H s es ∧ NewLogX K H Q b z ns es
/-! ### data of names and entries -/
theorem strOk_of {z : Str} (h : nameOk z = true) : PyData.strOk z = true := by
  unfold nameOk at h
  simp only [Bool.and_eq_true] at h
  have h1 : (z.cps.all fun c => decide (c < 128)) = true := h.2.1
  show (z.cps.all fun c => decide (c < 0x110000)) = true
  rw [Array.all_eq_true] at h1 ⊢
  intro i hi
  have := of_decide_eq_true (h1 i hi)
  exact decide_eq_true (by omega)
theorem lay_strs : ∀ {ns : List Str}, (∀ z ∈ ns, nameOk z = true) → PyData.canLayAll0 (ns.map PyData.str) = true
  | [], _ => rfl
  | n :: ns, h => by
    show (PyData.strOk n && PyData.canLayAll0 (ns.map PyData.str)) = true
    rw [strOk_of (h n (List.mem_cons_self ..)), lay_strs fun z hz => h z (List.mem_cons_of_mem _ hz)]
    rfl
theorem lay_ens {ns : List Str} (hn : ∀ z ∈ ns, nameOk z = true) : ∀ {es : List En}, (∀ e ∈ es, enOk ns e = true) → PyData.canLayAll0 (es.map enD) = true
  | [], _ => rfl
  | e :: es, h => by
    have h1 := h e (List.mem_cons_self ..)
    unfold enOk at h1
    simp only [Bool.and_eq_true, decide_eq_true_eq] at h1
    show ((PyData.strOk e.1 && (true && true)) && PyData.canLayAll0 (es.map enD)) = true
    rw [strOk_of (hn _ h1.1), lay_ens hn fun z hz => h z (List.mem_cons_of_mem _ hz)]
    rfl
theorem dep_strs : ∀ ns : List Str, PyData.depthAll (ns.map PyData.str) = 0
  | [] => rfl
  | n :: ns => by
    show max 0 (PyData.depthAll (ns.map PyData.str)) = 0
    rw [dep_strs ns]
    rfl
theorem dep_ens : ∀ es : List En, PyData.depthAll (es.map enD) ≤ 1
  | [] => Nat.zero_le _
  | e :: es => by
    show max (max 0 (max 0 0) + 1) (PyData.depthAll (es.map enD)) ≤ 1
    have := dep_ens es
    simp only [Nat.max_self, Nat.zero_add]
    omega
theorem shaped_crew {ns : List Str} (h : Crew ns) : SeqAt.shaped (.list (ns.map PyData.str)) = true := by
  unfold SeqAt.shaped
  rw [Bool.and_eq_true]
  refine ⟨lay_strs h.ok, decide_eq_true ?_⟩
  show PyData.depthAll (ns.map PyData.str) + 1 ≤ 64
  rw [dep_strs]
  decide
theorem shaped_ens {ns : List Str} {es : List En} (h : Crew ns) (g : EnsOk ns es) : SeqAt.shaped (.list (es.map enD)) = true := by
  unfold SeqAt.shaped
  rw [Bool.and_eq_true]
  refine ⟨lay_ens h.ok g.ok, decide_eq_true ?_⟩
  show PyData.depthAll (es.map enD) + 1 ≤ 64
  have := dep_ens es
  omega
theorem eqv_strs : ∀ ns ms : List Str, PyData.eqvAll (ns.map PyData.str) (ms.map PyData.str) = decide (ns = ms)
  | [], [] => by simp [PyData.eqvAll]
  | [], _ :: _ => by simp [PyData.eqvAll]
  | _ :: _, [] => by simp [PyData.eqvAll]
  | n :: ns, m :: ms => by
    show ((n == m) && PyData.eqvAll (ns.map PyData.str) (ms.map PyData.str)) = _
    rw [eqv_strs ns ms, Bool.eq_iff_iff]
    simp
theorem eqv_ens : ∀ es fs : List En, PyData.eqvAll (es.map enD) (fs.map enD) = decide (es = fs)
  | [], [] => by simp [PyData.eqvAll]
  | [], _ :: _ => by simp [PyData.eqvAll]
  | _ :: _, [] => by simp [PyData.eqvAll]
  | (a, i) :: es, (b, j) :: fs => by
    show (((a == b) && ((i == j) && true)) && PyData.eqvAll (es.map enD) (fs.map enD)) = _
    rw [eqv_ens es fs, Bool.eq_iff_iff]
    simp
theorem kindS_inj : ∀ {a b : Bool}, kindS a = kindS b → a = b
  | true, true, _ => rfl
  | false, false, _ => rfl
  | true, false, h => absurd h (by decide +kernel)
  | false, true, h => absurd h (by decide +kernel)
/-- a log's kind of value -/
theorem LogAt.knd {K : PySem.W.Frag} {H : Hp} {p : Addr} {b : Bool} {z : Int} {ns : List Str} {es : List En} (h : LogAt K H p b z ns es) : Knd K H (.ref p) (.log b) := by
  obtain ⟨dx, ls, le, h1, _⟩ := h
  exact .log h1
theorem C2_inj {K : PySem.W.Frag} (F : LF K) : ∀ {a b : Bool}, C2 K a = C2 K b → a = b
  | true, true, _ => rfl
  | false, false, _ => rfl
  | true, false, h => absurd h F.ne
  | false, true, h => absurd h.symm F.ne
/-- the kind of a log's address is the log's -/
theorem LogAt.kd {K : PySem.W.Frag} (F : LF K) {H : Hp} {p : Addr} {b : Bool} {z : Int} {ns : List Str} {es : List En} {d : Kd} (h : LogAt K H p b z ns es) (k : Knd K H (.ref p) d) : d = .log b := by
  obtain ⟨dx, ls, le, h1, _⟩ := h
  cases k with
  | lst e => rw [h1] at e; cases e
  | tup e => rw [h1] at e; cases e
  | dct e => rw [h1] at e; cases e
  | log e =>
    rw [h1] at e
    injection e with e
    injection e with e1 e2 e3
    rw [C2_inj F e1]
end NbS

set_option Elab.async false
set_option linter.all false
set_option maxRecDepth 100000
set_option maxHeartbeats 4000000
namespace LawP
open PySem PySem.Spec PyProof.Rows L2 Nb NbR NbB NbE NbT NbU NbS
def topS (i : Nat) : Stmt := PySem.Challenge.pw_numberbooks_k26_whole_counts_of_alike_lo.main.body.getD i (.Pass ⟨0, 0, 0, 0⟩)
abbrev s_NotPossible_init : Stmt := inClass (topS 10) 0
theorem sc_NotPossible_init : FnScope ["self", "obstacle"] ["self", "obstacle"] (defScope s_NotPossible_init) := ⟨rfl, rfl, rfl, by decide +kernel, rfl, by decide +kernel, by decide +kernel⟩
abbrev s_is_integer : Stmt := topS 16
theorem sc_is_integer : FnScope ["thing"] ["thing"] (defScope s_is_integer) := ⟨rfl, rfl, rfl, by decide +kernel, rfl, by decide +kernel, by decide +kernel⟩
abbrev s_is_natural : Stmt := topS 17
theorem sc_is_natural : FnScope ["thing"] ["thing"] (defScope s_is_natural) := ⟨rfl, rfl, rfl, by decide +kernel, rfl, by decide +kernel, by decide +kernel⟩
abbrev s_is_size : Stmt := topS 18
theorem sc_is_size : FnScope ["thing"] ["thing"] (defScope s_is_size) := ⟨rfl, rfl, rfl, by decide +kernel, rfl, by decide +kernel, by decide +kernel⟩
abbrev s_is_name : Stmt := topS 19
theorem sc_is_name : FnScope ["thing"] ["thing"] (defScope s_is_name) := ⟨rfl, rfl, rfl, by decide +kernel, rfl, by decide +kernel, by decide +kernel⟩
abbrev s_are_servers : Stmt := topS 20
theorem sc_are_servers : FnScope ["thing", "name"] ["thing"] (defScope s_are_servers) := ⟨rfl, rfl, rfl, by decide +kernel, rfl, by decide +kernel, by decide +kernel⟩
abbrev s_is_server : Stmt := topS 21
theorem sc_is_server : FnScope ["servers", "thing"] ["servers", "thing"] (defScope s_is_server) := ⟨rfl, rfl, rfl, by decide +kernel, rfl, by decide +kernel, by decide +kernel⟩
abbrev s_is_entry : Stmt := topS 22
theorem sc_is_entry : FnScope ["servers", "thing", "server", "number"] ["servers", "thing"] (defScope s_is_entry) := ⟨rfl, rfl, rfl, by decide +kernel, rfl, by decide +kernel, by decide +kernel⟩
abbrev s_check_size : Stmt := topS 23
theorem sc_check_size : FnScope ["size"] ["size"] (defScope s_check_size) := ⟨rfl, rfl, rfl, by decide +kernel, rfl, by decide +kernel, by decide +kernel⟩
abbrev s_check_servers : Stmt := topS 24
theorem sc_check_servers : FnScope ["servers"] ["servers"] (defScope s_check_servers) := ⟨rfl, rfl, rfl, by decide +kernel, rfl, by decide +kernel, by decide +kernel⟩
abbrev s_check_entries : Stmt := topS 25
theorem sc_check_entries : FnScope ["servers", "entries", "entry"] ["servers", "entries"] (defScope s_check_entries) := ⟨rfl, rfl, rfl, by decide +kernel, rfl, by decide +kernel, by decide +kernel⟩
abbrev s_check_count : Stmt := topS 26
theorem sc_check_count : FnScope ["count", "most"] ["count", "most"] (defScope s_check_count) := ⟨rfl, rfl, rfl, by decide +kernel, rfl, by decide +kernel, by decide +kernel⟩
abbrev s_Sight_init : Stmt := inClass (topS 28) 0
theorem sc_Sight_init : FnScope ["self", "size", "servers", "entries", "index", "server", "number", "block"] ["self", "size", "servers", "entries"] (defScope s_Sight_init) := ⟨rfl, rfl, rfl, by decide +kernel, rfl, by decide +kernel, by decide +kernel⟩
abbrev s_Sight_window_of : Stmt := inClass (topS 28) 1
theorem sc_Sight_window_of : FnScope ["self", "server", "block", "low", "high", "index", "seen", "holder"] ["self", "server", "block"] (defScope s_Sight_window_of) := ⟨rfl, rfl, rfl, by decide +kernel, rfl, by decide +kernel, by decide +kernel⟩
abbrev s_Sight_windows_of : Stmt := inClass (topS 28) 2
theorem sc_Sight_windows_of : FnScope ["self", "block", "found", "name", "pair"] ["self", "block"] (defScope s_Sight_windows_of) := ⟨rfl, rfl, rfl, by decide +kernel, rfl, by decide +kernel, by decide +kernel⟩
abbrev s_Sight_slot_from : Stmt := inClass (topS 28) 3
theorem sc_Sight_slot_from : FnScope ["self", "block", "slot", "found", "low", "high"] ["self", "block", "slot"] (defScope s_Sight_slot_from) := ⟨rfl, rfl, rfl, by decide +kernel, rfl, by decide +kernel, by decide +kernel⟩
abbrev s_Sight_slot_up_to : Stmt := inClass (topS 28) 4
theorem sc_Sight_slot_up_to : FnScope ["self", "block", "slot", "found", "low", "high"] ["self", "block", "slot"] (defScope s_Sight_slot_up_to) := ⟨rfl, rfl, rfl, by decide +kernel, rfl, by decide +kernel, by decide +kernel⟩
abbrev s_Sight_span_starts : Stmt := inClass (topS 28) 5
theorem sc_Sight_span_starts : FnScope ["self", "starts", "following", "block"] ["self"] (defScope s_Sight_span_starts) := ⟨rfl, rfl, rfl, by decide +kernel, rfl, by decide +kernel, by decide +kernel⟩
abbrev s_Sight_whole_spans : Stmt := inClass (topS 28) 6
theorem sc_Sight_whole_spans : FnScope ["self", "starts", "ends", "start"] ["self"] (defScope s_Sight_whole_spans) := ⟨rfl, rfl, rfl, by decide +kernel, rfl, by decide +kernel, by decide +kernel⟩
abbrev s_Sight_earliest_slots : Stmt := inClass (topS 28) 8
theorem sc_Sight_earliest_slots : FnScope ["self", "found", "slot", "start"] ["self"] (defScope s_Sight_earliest_slots) := ⟨rfl, rfl, rfl, by decide +kernel, rfl, by decide +kernel, by decide +kernel⟩
abbrev s_Sight_latest_slots : Stmt := inClass (topS 28) 9
theorem sc_Sight_latest_slots : FnScope ["self", "found", "slot", "start"] ["self"] (defScope s_Sight_latest_slots) := ⟨rfl, rfl, rfl, by decide +kernel, rfl, by decide +kernel, by decide +kernel⟩
abbrev s_sight_of : Stmt := topS 29
theorem sc_sight_of : FnScope ["log"] ["log"] (defScope s_sight_of) := ⟨rfl, rfl, rfl, by decide +kernel, rfl, by decide +kernel, by decide +kernel⟩
abbrev s_find_obstacle : Stmt := topS 30
theorem sc_find_obstacle : FnScope ["size", "servers", "entries", "found", "steps"] ["size", "servers", "entries"] (defScope s_find_obstacle) := ⟨rfl, rfl, rfl, by decide +kernel, rfl, by decide +kernel, by decide +kernel⟩
abbrev s_find_pair : Stmt := topS 31
theorem sc_find_pair : FnScope ["size", "entries", "found"] ["size", "entries"] (defScope s_find_pair) := ⟨rfl, rfl, rfl, by decide +kernel, rfl, by decide +kernel, by decide +kernel⟩
abbrev s_find_twice : Stmt := topS 32
theorem sc_find_twice : FnScope ["entries", "indices", "index", "_", "number"] ["entries"] (defScope s_find_twice) := ⟨rfl, rfl, rfl, by decide +kernel, rfl, by decide +kernel, by decide +kernel⟩
abbrev s_find_shared : Stmt := topS 33
theorem sc_find_shared : FnScope ["size", "entries", "indices", "index", "server", "number", "former"] ["size", "entries"] (defScope s_find_shared) := ⟨rfl, rfl, rfl, by decide +kernel, rfl, by decide +kernel, by decide +kernel⟩
abbrev s_find_back : Stmt := topS 34
theorem sc_find_back : FnScope ["entries", "indices", "index", "server", "number", "former"] ["entries"] (defScope s_find_back) := ⟨rfl, rfl, rfl, by decide +kernel, rfl, by decide +kernel, by decide +kernel⟩
abbrev s_pushed_steps : Stmt := topS 35
theorem sc_pushed_steps : FnScope ["sight", "steps", "former", "start", "slot"] ["sight"] (defScope s_pushed_steps) := ⟨rfl, rfl, rfl, by decide +kernel, rfl, by decide +kernel, by decide +kernel⟩
abbrev s_check_possible : Stmt := topS 36
theorem sc_check_possible : FnScope ["log"] ["log"] (defScope s_check_possible) := ⟨rfl, rfl, rfl, by decide +kernel, rfl, by decide +kernel, by decide +kernel⟩
abbrev s_check_entries_possible : Stmt := topS 37
theorem sc_check_entries_possible : FnScope ["size", "servers", "entries", "found"] ["size", "servers", "entries"] (defScope s_check_entries_possible) := ⟨rfl, rfl, rfl, by decide +kernel, rfl, by decide +kernel, by decide +kernel⟩
abbrev s_Reach_init : Stmt := inClass (topS 39) 0
theorem sc_Reach_init : FnScope ["self", "log"] ["self", "log"] (defScope s_Reach_init) := ⟨rfl, rfl, rfl, by decide +kernel, rfl, by decide +kernel, by decide +kernel⟩
abbrev s_Reach_slots_in : Stmt := inClass (topS 39) 1
theorem sc_Reach_slots_in : FnScope ["self", "index", "server", "found", "first", "last"] ["self", "index", "server"] (defScope s_Reach_slots_in) := ⟨rfl, rfl, rfl, by decide +kernel, rfl, by decide +kernel, by decide +kernel⟩
abbrev s_Reach_owners_in : Stmt := inClass (topS 39) 2
theorem sc_Reach_owners_in : FnScope ["self", "index", "name"] ["self", "index"] (defScope s_Reach_owners_in) := ⟨rfl, rfl, rfl, by decide +kernel, rfl, by decide +kernel, by decide +kernel⟩
abbrev s_owners_by_block : Stmt := topS 42
theorem sc_owners_by_block : FnScope ["log", "reach", "rows", "index", "first", "last"] ["log"] (defScope s_owners_by_block) := ⟨rfl, rfl, rfl, by decide +kernel, rfl, by decide +kernel, by decide +kernel⟩
abbrev s_count_rows : Stmt := topS 43
theorem sc_count_rows : FnScope ["rows", "many", "row"] ["rows"] (defScope s_count_rows) := ⟨rfl, rfl, rfl, by decide +kernel, rfl, by decide +kernel, by decide +kernel⟩
abbrev s_count_lists : Stmt := topS 44
theorem sc_count_lists : FnScope ["log"] ["log"] (defScope s_count_lists) := ⟨rfl, rfl, rfl, by decide +kernel, rfl, by decide +kernel, by decide +kernel⟩
abbrev s_nth_list : Stmt := topS 45
theorem sc_nth_list : FnScope ["log", "index", "rows", "names", "rest", "row"] ["log", "index"] (defScope s_nth_list) := ⟨rfl, rfl, rfl, by decide +kernel, rfl, by decide +kernel, by decide +kernel⟩
abbrev s_list_index : Stmt := topS 46
theorem sc_list_index : FnScope ["log", "owners", "rows", "index", "row", "owner"] ["log", "owners"] (defScope s_list_index) := ⟨rfl, rfl, rfl, by decide +kernel, rfl, by decide +kernel, by decide +kernel⟩
abbrev s_place_in : Stmt := topS 47
theorem sc_place_in : FnScope ["row", "owner"] ["row", "owner"] (defScope s_place_in) := ⟨rfl, rfl, rfl, by decide +kernel, rfl, by decide +kernel, by decide +kernel⟩
abbrev s_Log_init : Stmt := inClass (topS 49) 1
theorem sc_Log_init : FnScope ["self", "size", "servers", "entries"] ["self", "size", "servers", "entries"] (defScope s_Log_init) := ⟨rfl, rfl, rfl, by decide +kernel, rfl, by decide +kernel, by decide +kernel⟩
abbrev s_Log_size : Stmt := inClass (topS 49) 2
theorem sc_Log_size : FnScope ["self"] ["self"] (defScope s_Log_size) := ⟨rfl, rfl, rfl, by decide +kernel, rfl, by decide +kernel, by decide +kernel⟩
abbrev s_Log_servers : Stmt := inClass (topS 49) 3
theorem sc_Log_servers : FnScope ["self"] ["self"] (defScope s_Log_servers) := ⟨rfl, rfl, rfl, by decide +kernel, rfl, by decide +kernel, by decide +kernel⟩
abbrev s_Log_entries : Stmt := inClass (topS 49) 4
theorem sc_Log_entries : FnScope ["self"] ["self"] (defScope s_Log_entries) := ⟨rfl, rfl, rfl, by decide +kernel, rfl, by decide +kernel, by decide +kernel⟩
abbrev s_Log_len : Stmt := inClass (topS 49) 5
theorem sc_Log_len : FnScope ["self"] ["self"] (defScope s_Log_len) := ⟨rfl, rfl, rfl, by decide +kernel, rfl, by decide +kernel, by decide +kernel⟩
abbrev s_Log_add : Stmt := inClass (topS 49) 6
theorem sc_Log_add : FnScope ["self", "other", "entries"] ["self", "other"] (defScope s_Log_add) := ⟨rfl, rfl, rfl, by decide +kernel, rfl, by decide +kernel, by decide +kernel⟩
abbrev s_Log_eq : Stmt := inClass (topS 49) 7
theorem sc_Log_eq : FnScope ["self", "other"] ["self", "other"] (defScope s_Log_eq) := ⟨rfl, rfl, rfl, by decide +kernel, rfl, by decide +kernel, by decide +kernel⟩
abbrev s_Log_contains : Stmt := inClass (topS 49) 8
theorem sc_Log_contains : FnScope ["self", "thing"] ["self", "thing"] (defScope s_Log_contains) := ⟨rfl, rfl, rfl, by decide +kernel, rfl, by decide +kernel, by decide +kernel⟩
abbrev s_Log_front : Stmt := inClass (topS 49) 10
theorem sc_Log_front : FnScope ["self", "count"] ["self", "count"] (defScope s_Log_front) := ⟨rfl, rfl, rfl, by decide +kernel, rfl, by decide +kernel, by decide +kernel⟩
abbrev s_Log_last_block : Stmt := inClass (topS 49) 11
theorem sc_Log_last_block : FnScope ["self", "_", "number"] ["self"] (defScope s_Log_last_block) := ⟨rfl, rfl, rfl, by decide +kernel, rfl, by decide +kernel, by decide +kernel⟩
abbrev s_Log_is_alike : Stmt := inClass (topS 49) 12
theorem sc_Log_is_alike : FnScope ["self", "other"] ["self", "other"] (defScope s_Log_is_alike) := ⟨rfl, rfl, rfl, by decide +kernel, rfl, by decide +kernel, by decide +kernel⟩
abbrev s_new_log : Stmt := topS 51
theorem sc_new_log : FnScope ["kind", "size", "servers", "entries"] ["kind", "size", "servers", "entries"] (defScope s_new_log) := ⟨rfl, rfl, rfl, by decide +kernel, rfl, by decide +kernel, by decide +kernel⟩
abbrev s_law_jar : Stmt := topS 53
theorem sc_law_jar : FnScope ["script", "k", "figure"] ["script", "k"] (defScope s_law_jar) := ⟨rfl, rfl, rfl, by decide +kernel, rfl, by decide +kernel, by decide +kernel⟩
abbrev s_law_tap : Stmt := topS 54
theorem sc_law_tap : FnScope ["jar", "size", "digit", "mixed"] ["jar", "size"] (defScope s_law_tap) := ⟨rfl, rfl, rfl, by decide +kernel, rfl, by decide +kernel, by decide +kernel⟩
abbrev s_law_names : Stmt := topS 55
theorem sc_law_names : FnScope ["jar", "many", "found", "at", "letter"] ["jar", "many"] (defScope s_law_names) := ⟨rfl, rfl, rfl, by decide +kernel, rfl, by decide +kernel, by decide +kernel⟩
abbrev s_law_step : Stmt := topS 56
theorem sc_law_step : FnScope ["jar", "size_here", "state", "jumps", "name", "block_here", "used", "jump", "held", "far", "spot"] ["jar", "size_here", "state", "jumps"] (defScope s_law_step) := ⟨rfl, rfl, rfl, by decide +kernel, rfl, by decide +kernel, by decide +kernel⟩
abbrev s_law_scene : Stmt := topS 57
theorem sc_law_scene : FnScope ["jar", "most", "many", "jumps", "size_here", "state", "hide", "entries_here", "turn", "shown"] ["jar", "most", "many", "jumps"] (defScope s_law_scene) := ⟨rfl, rfl, rfl, by decide +kernel, rfl, by decide +kernel, by decide +kernel⟩
abbrev s_law_made : Stmt := topS 58
theorem sc_law_made : FnScope ["is_losing", "size_here", "names_here", "entries_here"] ["is_losing", "size_here", "names_here", "entries_here"] (defScope s_law_made) := ⟨rfl, rfl, rfl, by decide +kernel, rfl, by decide +kernel, by decide +kernel⟩
abbrev s_law_later_right : Stmt := topS 59
theorem sc_law_later_right : FnScope ["jar", "book", "whole", "names_here", "blocks_here", "shifted", "later", "many", "front", "place", "name", "spot", "told", "due", "number", "turn"] ["jar", "book", "whole"] (defScope s_law_later_right) := ⟨rfl, rfl, rfl, by decide +kernel, rfl, by decide +kernel, by decide +kernel⟩
abbrev s_law_right : Stmt := topS 60
theorem sc_law_right : FnScope ["jar", "size_here", "names_here", "entries_here", "book", "whole", "top", "more", "turned", "at", "less"] ["jar", "size_here", "names_here", "entries_here"] (defScope s_law_right) := ⟨rfl, rfl, rfl, by decide +kernel, rfl, by decide +kernel, by decide +kernel⟩
abbrev s_law : Stmt := topS 61
theorem sc_law : FnScope ["script", "k", "jar", "most", "many", "jumps", "size_here", "names_here", "entries_here", "top", "name", "number"] ["script"] (defScope s_law) := ⟨rfl, rfl, rfl, by decide +kernel, rfl, by decide +kernel, by decide +kernel⟩
def d_NotPossible_init : NbH.DefA := ⟨fun K => He.ma K (He.ga K "NotPossible") "__init__", "__init__", "NotPossible.__init__", defArgs s_NotPossible_init, defBody s_NotPossible_init, defScope s_NotPossible_init⟩
def d_is_integer : NbH.DefA := ⟨fun K => He.ga K "is_integer", "is_integer", "is_integer", defArgs s_is_integer, defBody s_is_integer, defScope s_is_integer⟩
def d_is_natural : NbH.DefA := ⟨fun K => He.ga K "is_natural", "is_natural", "is_natural", defArgs s_is_natural, defBody s_is_natural, defScope s_is_natural⟩
def d_is_size : NbH.DefA := ⟨fun K => He.ga K "is_size", "is_size", "is_size", defArgs s_is_size, defBody s_is_size, defScope s_is_size⟩
def d_is_name : NbH.DefA := ⟨fun K => He.ga K "is_name", "is_name", "is_name", defArgs s_is_name, defBody s_is_name, defScope s_is_name⟩
def d_are_servers : NbH.DefA := ⟨fun K => He.ga K "are_servers", "are_servers", "are_servers", defArgs s_are_servers, defBody s_are_servers, defScope s_are_servers⟩
def d_is_server : NbH.DefA := ⟨fun K => He.ga K "is_server", "is_server", "is_server", defArgs s_is_server, defBody s_is_server, defScope s_is_server⟩
def d_is_entry : NbH.DefA := ⟨fun K => He.ga K "is_entry", "is_entry", "is_entry", defArgs s_is_entry, defBody s_is_entry, defScope s_is_entry⟩
def d_check_size : NbH.DefA := ⟨fun K => He.ga K "check_size", "check_size", "check_size", defArgs s_check_size, defBody s_check_size, defScope s_check_size⟩
def d_check_servers : NbH.DefA := ⟨fun K => He.ga K "check_servers", "check_servers", "check_servers", defArgs s_check_servers, defBody s_check_servers, defScope s_check_servers⟩
def d_check_entries : NbH.DefA := ⟨fun K => He.ga K "check_entries", "check_entries", "check_entries", defArgs s_check_entries, defBody s_check_entries, defScope s_check_entries⟩
def d_check_count : NbH.DefA := ⟨fun K => He.ga K "check_count", "check_count", "check_count", defArgs s_check_count, defBody s_check_count, defScope s_check_count⟩
def d_Sight_init : NbH.DefA := ⟨fun K => He.ma K (He.ga K "Sight") "__init__", "__init__", "Sight.__init__", defArgs s_Sight_init, defBody s_Sight_init, defScope s_Sight_init⟩
def d_Sight_window_of : NbH.DefA := ⟨fun K => He.ma K (He.ga K "Sight") "window_of", "window_of", "Sight.window_of", defArgs s_Sight_window_of, defBody s_Sight_window_of, defScope s_Sight_window_of⟩
def d_Sight_windows_of : NbH.DefA := ⟨fun K => He.ma K (He.ga K "Sight") "windows_of", "windows_of", "Sight.windows_of", defArgs s_Sight_windows_of, defBody s_Sight_windows_of, defScope s_Sight_windows_of⟩
def d_Sight_slot_from : NbH.DefA := ⟨fun K => He.ma K (He.ga K "Sight") "slot_from", "slot_from", "Sight.slot_from", defArgs s_Sight_slot_from, defBody s_Sight_slot_from, defScope s_Sight_slot_from⟩
def d_Sight_slot_up_to : NbH.DefA := ⟨fun K => He.ma K (He.ga K "Sight") "slot_up_to", "slot_up_to", "Sight.slot_up_to", defArgs s_Sight_slot_up_to, defBody s_Sight_slot_up_to, defScope s_Sight_slot_up_to⟩
def d_Sight_span_starts : NbH.DefA := ⟨fun K => He.ma K (He.ga K "Sight") "span_starts", "span_starts", "Sight.span_starts", defArgs s_Sight_span_starts, defBody s_Sight_span_starts, defScope s_Sight_span_starts⟩
def d_Sight_whole_spans : NbH.DefA := ⟨fun K => He.ma K (He.ga K "Sight") "whole_spans", "whole_spans", "Sight.whole_spans", defArgs s_Sight_whole_spans, defBody s_Sight_whole_spans, defScope s_Sight_whole_spans⟩
def d_Sight_earliest_slots : NbH.DefA := ⟨fun K => He.ma K (He.ga K "Sight") "earliest_slots", "earliest_slots", "Sight.earliest_slots", defArgs s_Sight_earliest_slots, defBody s_Sight_earliest_slots, defScope s_Sight_earliest_slots⟩
def d_Sight_latest_slots : NbH.DefA := ⟨fun K => He.ma K (He.ga K "Sight") "latest_slots", "latest_slots", "Sight.latest_slots", defArgs s_Sight_latest_slots, defBody s_Sight_latest_slots, defScope s_Sight_latest_slots⟩
def d_sight_of : NbH.DefA := ⟨fun K => He.ga K "sight_of", "sight_of", "sight_of", defArgs s_sight_of, defBody s_sight_of, defScope s_sight_of⟩
def d_find_obstacle : NbH.DefA := ⟨fun K => He.ga K "find_obstacle", "find_obstacle", "find_obstacle", defArgs s_find_obstacle, defBody s_find_obstacle, defScope s_find_obstacle⟩
def d_find_pair : NbH.DefA := ⟨fun K => He.ga K "find_pair", "find_pair", "find_pair", defArgs s_find_pair, defBody s_find_pair, defScope s_find_pair⟩
def d_find_twice : NbH.DefA := ⟨fun K => He.ga K "find_twice", "find_twice", "find_twice", defArgs s_find_twice, defBody s_find_twice, defScope s_find_twice⟩
def d_find_shared : NbH.DefA := ⟨fun K => He.ga K "find_shared", "find_shared", "find_shared", defArgs s_find_shared, defBody s_find_shared, defScope s_find_shared⟩
def d_find_back : NbH.DefA := ⟨fun K => He.ga K "find_back", "find_back", "find_back", defArgs s_find_back, defBody s_find_back, defScope s_find_back⟩
def d_pushed_steps : NbH.DefA := ⟨fun K => He.ga K "pushed_steps", "pushed_steps", "pushed_steps", defArgs s_pushed_steps, defBody s_pushed_steps, defScope s_pushed_steps⟩
def d_check_possible : NbH.DefA := ⟨fun K => He.ga K "check_possible", "check_possible", "check_possible", defArgs s_check_possible, defBody s_check_possible, defScope s_check_possible⟩
def d_check_entries_possible : NbH.DefA := ⟨fun K => He.ga K "check_entries_possible", "check_entries_possible", "check_entries_possible", defArgs s_check_entries_possible, defBody s_check_entries_possible, defScope s_check_entries_possible⟩
def d_Reach_init : NbH.DefA := ⟨fun K => He.ma K (He.ga K "Reach") "__init__", "__init__", "Reach.__init__", defArgs s_Reach_init, defBody s_Reach_init, defScope s_Reach_init⟩
def d_Reach_slots_in : NbH.DefA := ⟨fun K => He.ma K (He.ga K "Reach") "slots_in", "slots_in", "Reach.slots_in", defArgs s_Reach_slots_in, defBody s_Reach_slots_in, defScope s_Reach_slots_in⟩
def d_Reach_owners_in : NbH.DefA := ⟨fun K => He.ma K (He.ga K "Reach") "owners_in", "owners_in", "Reach.owners_in", defArgs s_Reach_owners_in, defBody s_Reach_owners_in, defScope s_Reach_owners_in⟩
def d_owners_by_block : NbH.DefA := ⟨fun K => He.ga K "owners_by_block", "owners_by_block", "owners_by_block", defArgs s_owners_by_block, defBody s_owners_by_block, defScope s_owners_by_block⟩
def d_count_rows : NbH.DefA := ⟨fun K => He.ga K "count_rows", "count_rows", "count_rows", defArgs s_count_rows, defBody s_count_rows, defScope s_count_rows⟩
def d_count_lists : NbH.DefA := ⟨fun K => He.ga K "count_lists", "count_lists", "count_lists", defArgs s_count_lists, defBody s_count_lists, defScope s_count_lists⟩
def d_nth_list : NbH.DefA := ⟨fun K => He.ga K "nth_list", "nth_list", "nth_list", defArgs s_nth_list, defBody s_nth_list, defScope s_nth_list⟩
def d_list_index : NbH.DefA := ⟨fun K => He.ga K "list_index", "list_index", "list_index", defArgs s_list_index, defBody s_list_index, defScope s_list_index⟩
def d_place_in : NbH.DefA := ⟨fun K => He.ga K "place_in", "place_in", "place_in", defArgs s_place_in, defBody s_place_in, defScope s_place_in⟩
def d_Log_init : NbH.DefA := ⟨fun K => He.ma K (He.ga K "Log") "__init__", "__init__", "Log.__init__", defArgs s_Log_init, defBody s_Log_init, defScope s_Log_init⟩
def d_Log_size : NbH.DefA := ⟨fun K => NbH.getterOf K "Log" "size", "size", "Log.size", defArgs s_Log_size, defBody s_Log_size, defScope s_Log_size⟩
def d_Log_servers : NbH.DefA := ⟨fun K => NbH.getterOf K "Log" "servers", "servers", "Log.servers", defArgs s_Log_servers, defBody s_Log_servers, defScope s_Log_servers⟩
def d_Log_entries : NbH.DefA := ⟨fun K => NbH.getterOf K "Log" "entries", "entries", "Log.entries", defArgs s_Log_entries, defBody s_Log_entries, defScope s_Log_entries⟩
def d_Log_len : NbH.DefA := ⟨fun K => He.ma K (He.ga K "Log") "__len__", "__len__", "Log.__len__", defArgs s_Log_len, defBody s_Log_len, defScope s_Log_len⟩
def d_Log_add : NbH.DefA := ⟨fun K => He.ma K (He.ga K "Log") "__add__", "__add__", "Log.__add__", defArgs s_Log_add, defBody s_Log_add, defScope s_Log_add⟩
def d_Log_eq : NbH.DefA := ⟨fun K => He.ma K (He.ga K "Log") "__eq__", "__eq__", "Log.__eq__", defArgs s_Log_eq, defBody s_Log_eq, defScope s_Log_eq⟩
def d_Log_contains : NbH.DefA := ⟨fun K => He.ma K (He.ga K "Log") "__contains__", "__contains__", "Log.__contains__", defArgs s_Log_contains, defBody s_Log_contains, defScope s_Log_contains⟩
def d_Log_front : NbH.DefA := ⟨fun K => He.ma K (He.ga K "Log") "front", "front", "Log.front", defArgs s_Log_front, defBody s_Log_front, defScope s_Log_front⟩
def d_Log_last_block : NbH.DefA := ⟨fun K => He.ma K (He.ga K "Log") "last_block", "last_block", "Log.last_block", defArgs s_Log_last_block, defBody s_Log_last_block, defScope s_Log_last_block⟩
def d_Log_is_alike : NbH.DefA := ⟨fun K => He.ma K (He.ga K "Log") "_is_alike", "_is_alike", "Log._is_alike", defArgs s_Log_is_alike, defBody s_Log_is_alike, defScope s_Log_is_alike⟩
def d_new_log : NbH.DefA := ⟨fun K => He.ga K "new_log", "new_log", "new_log", defArgs s_new_log, defBody s_new_log, defScope s_new_log⟩
def d_law_jar : NbH.DefA := ⟨fun K => He.ga K "_law_jar", "_law_jar", "_law_jar", defArgs s_law_jar, defBody s_law_jar, defScope s_law_jar⟩
def d_law_tap : NbH.DefA := ⟨fun K => He.ga K "_law_tap", "_law_tap", "_law_tap", defArgs s_law_tap, defBody s_law_tap, defScope s_law_tap⟩
def d_law_names : NbH.DefA := ⟨fun K => He.ga K "_law_names", "_law_names", "_law_names", defArgs s_law_names, defBody s_law_names, defScope s_law_names⟩
def d_law_step : NbH.DefA := ⟨fun K => He.ga K "_law_step", "_law_step", "_law_step", defArgs s_law_step, defBody s_law_step, defScope s_law_step⟩
def d_law_scene : NbH.DefA := ⟨fun K => He.ga K "_law_scene", "_law_scene", "_law_scene", defArgs s_law_scene, defBody s_law_scene, defScope s_law_scene⟩
def d_law_made : NbH.DefA := ⟨fun K => He.ga K "_law_made", "_law_made", "_law_made", defArgs s_law_made, defBody s_law_made, defScope s_law_made⟩
def d_law_later_right : NbH.DefA := ⟨fun K => He.ga K "_law_later_right", "_law_later_right", "_law_later_right", defArgs s_law_later_right, defBody s_law_later_right, defScope s_law_later_right⟩
def d_law_right : NbH.DefA := ⟨fun K => He.ga K "_law_right", "_law_right", "_law_right", defArgs s_law_right, defBody s_law_right, defScope s_law_right⟩
def d_law : NbH.DefA := ⟨fun K => He.ga K "law", "law", "law", defArgs s_law, defBody s_law, defScope s_law⟩
def dfs : List NbH.DefA := [d_NotPossible_init, d_is_integer, d_is_natural, d_is_size, d_is_name, d_are_servers, d_is_server, d_is_entry, d_check_size, d_check_servers, d_check_entries, d_check_count, d_Sight_init, d_Sight_window_of, d_Sight_windows_of, d_Sight_slot_from, d_Sight_slot_up_to, d_Sight_span_starts, d_Sight_whole_spans, d_Sight_earliest_slots, d_Sight_latest_slots, d_sight_of, d_find_obstacle, d_find_pair, d_find_twice, d_find_shared, d_find_back, d_pushed_steps, d_check_possible, d_check_entries_possible, d_Reach_init, d_Reach_slots_in, d_Reach_owners_in, d_owners_by_block, d_count_rows, d_count_lists, d_nth_list, d_list_index, d_place_in, d_Log_init, d_Log_size, d_Log_servers, d_Log_entries, d_Log_len, d_Log_add, d_Log_eq, d_Log_contains, d_Log_front, d_Log_last_block, d_Log_is_alike, d_new_log, d_law_jar, d_law_tap, d_law_names, d_law_step, d_law_scene, d_law_made, d_law_later_right, d_law_right, d_law]
def fax (K : PySem.W.Frag) : List Bool := [
  (He.Fa.glo "_law_jar").ok K,
  (He.Fa.glo "_law_tap").ok K,
  (He.Fa.glo "_law_names").ok K,
  (He.Fa.glo "_law_step").ok K,
  (He.Fa.glo "_law_scene").ok K,
  (He.Fa.glo "is_integer").ok K,
  (He.Fa.glo "is_size").ok K,
  (He.Fa.glo "check_size").ok K,
  (He.Fa.glo "is_name").ok K,
  (He.Fa.glo "are_servers").ok K,
  (He.Fa.glo "check_servers").ok K,
  (He.Fa.glo "is_server").ok K,
  (He.Fa.glo "is_natural").ok K,
  (He.Fa.glo "is_entry").ok K,
  (He.Fa.glo "check_entries").ok K,
  (He.Fa.glo "count_rows").ok K,
  (He.Fa.glo "find_twice").ok K,
  (He.Fa.glo "find_shared").ok K,
  (He.Fa.glo "find_back").ok K,
  (He.Fa.glo "find_pair").ok K,
  (He.Fa.glo "pushed_steps").ok K,
  (He.Fa.glo "find_obstacle").ok K,
  (He.Fa.glo "check_entries_possible").ok K,
  (He.Fa.glo "check_possible").ok K,
  (He.Fa.glo "sight_of").ok K,
  (He.Fa.glo "owners_by_block").ok K,
  (He.Fa.glo "count_lists").ok K,
  (He.Fa.glo "place_in").ok K,
  (He.Fa.glo "list_index").ok K,
  (He.Fa.glo "check_count").ok K,
  (He.Fa.glo "nth_list").ok K,
  (He.Fa.glo "_law_later_right").ok K,
  (He.Fa.glo "_law_right").ok K,
  (He.Fa.glo "law").ok K,
  (He.Fa.glo "BookError").ok K,
  (He.Fa.glo "InvalidSize").ok K,
  (He.Fa.glo "InvalidServers").ok K,
  (He.Fa.glo "InvalidEntries").ok K,
  (He.Fa.glo "InvalidNumber").ok K,
  (He.Fa.glo "InvalidOwners").ok K,
  (He.Fa.glo "InvalidLog").ok K,
  (He.Fa.glo "TooLarge").ok K,
  (He.Fa.glo "NotPossible").ok K,
  (He.Fa.glo "Sight").ok K,
  (He.Fa.glo "Reach").ok K,
  (He.Fa.glo "Log").ok K,
  (He.Fa.glo "LosingLog").ok K,
  (He.Fa.free "len").ok K,
  (He.Fa.free "max").ok K,
  (He.Fa.free "min").ok K,
  (He.Fa.free "abs").ok K,
  (He.Fa.free "int").ok K,
  (He.Fa.free "bool").ok K,
  (He.Fa.free "str").ok K,
  (He.Fa.free "list").ok K,
  (He.Fa.free "tuple").ok K,
  (He.Fa.free "dict").ok K,
  (He.Fa.free "isinstance").ok K,
  (He.Fa.free "all").ok K,
  (He.Fa.free "any").ok K,
  (He.Fa.free "repr").ok K,
  (He.Fa.free "range").ok K,
  (He.Fa.free "enumerate").ok K,
  (He.Fa.free "zip").ok K,
  (He.Fa.free "sorted").ok K,
  (He.Fa.free "set").ok K,
  (He.Fa.free "sum").ok K,
  (He.Fa.free "reversed").ok K,
  (He.Fa.int "GREATEST_SIZE" 1000000000000000000000000000000).ok K,
  (He.Fa.int "MOST_SERVERS" 12).ok K,
  (He.Fa.int "MOST_LETTERS" 8).ok K,
  (He.Fa.int "MOST_ENTRIES" 200).ok K,
  (He.Fa.int "GREATEST_BLOCK" 200).ok K,
  (He.Fa.exc "InvalidLog").ok K,
  (He.Fa.exm "InvalidLog" "InvalidLog" true).ok K,
  (He.Fa.cls "Sight").ok K,
  (He.Fa.noat "Sight" "names").ok K,
  (He.Fa.noat "Sight" "last_slot").ok K,
  (He.Fa.noat "Sight" "holders").ok K,
  (He.Fa.noat "Sight" "places").ok K,
  (He.Fa.mkr "Sight").ok K,
  (He.Fa.meth "Sight" "window_of").ok K,
  (He.Fa.meth "Sight" "windows_of").ok K,
  (He.Fa.meth "Sight" "slot_from").ok K,
  (He.Fa.meth "Sight" "slot_up_to").ok K,
  (He.Fa.meth "Sight" "span_starts").ok K,
  (He.Fa.meth "Sight" "whole_spans").ok K,
  (He.Fa.meth "Sight" "earliest_slots").ok K,
  (He.Fa.meth "Sight" "latest_slots").ok K,
  (He.Fa.cls "Reach").ok K,
  (He.Fa.noat "Reach" "sight").ok K,
  (He.Fa.noat "Reach" "spans").ok K,
  (He.Fa.noat "Reach" "first_slots").ok K,
  (He.Fa.noat "Reach" "last_slots").ok K,
  (He.Fa.mkr "Reach").ok K,
  (He.Fa.meth "Reach" "slots_in").ok K,
  (He.Fa.meth "Reach" "owners_in").ok K,
  (He.Fa.meth "Log" "__init__").ok K,
  (He.Fa.meth "LosingLog" "__init__").ok K,
  decide (He.ma K (He.ga K "LosingLog") "__init__" = He.ma K (He.ga K "Log") "__init__"),
  (He.Fa.meth "Log" "__len__").ok K,
  (He.Fa.meth "LosingLog" "__len__").ok K,
  decide (He.ma K (He.ga K "LosingLog") "__len__" = He.ma K (He.ga K "Log") "__len__"),
  (He.Fa.meth "Log" "__add__").ok K,
  (He.Fa.meth "LosingLog" "__add__").ok K,
  decide (He.ma K (He.ga K "LosingLog") "__add__" = He.ma K (He.ga K "Log") "__add__"),
  PySem.W.selfFirst K (CL K),
  PySem.W.selfFirst K (CO K),
  (He.Fa.meth "Log" "__eq__").ok K,
  (He.Fa.meth "LosingLog" "__eq__").ok K,
  decide (He.ma K (He.ga K "LosingLog") "__eq__" = He.ma K (He.ga K "Log") "__eq__"),
  (He.Fa.meth "Log" "__contains__").ok K,
  (He.Fa.meth "LosingLog" "__contains__").ok K,
  decide (He.ma K (He.ga K "LosingLog") "__contains__" = He.ma K (He.ga K "Log") "__contains__"),
  (He.Fa.meth "Log" "front").ok K,
  (He.Fa.meth "LosingLog" "front").ok K,
  decide (He.ma K (He.ga K "LosingLog") "front" = He.ma K (He.ga K "Log") "front"),
  (He.Fa.meth "Log" "last_block").ok K,
  (He.Fa.meth "LosingLog" "last_block").ok K,
  decide (He.ma K (He.ga K "LosingLog") "last_block" = He.ma K (He.ga K "Log") "last_block"),
  (He.Fa.meth "Log" "_is_alike").ok K,
  (He.Fa.meth "LosingLog" "_is_alike").ok K,
  decide (He.ma K (He.ga K "LosingLog") "_is_alike" = He.ma K (He.ga K "Log") "_is_alike"),
  NbH.propB K "Log" "size",
  NbH.propB K "LosingLog" "size",
  decide (NbH.getterOf K "LosingLog" "size" = NbH.getterOf K "Log" "size"),
  NbH.propB K "Log" "servers",
  NbH.propB K "LosingLog" "servers",
  decide (NbH.getterOf K "LosingLog" "servers" = NbH.getterOf K "Log" "servers"),
  NbH.propB K "Log" "entries",
  NbH.propB K "LosingLog" "entries",
  decide (NbH.getterOf K "LosingLog" "entries" = NbH.getterOf K "Log" "entries"),
  (He.Fa.mkr "Log").ok K,
  (He.Fa.mkr "LosingLog").ok K,
  decide (He.ma K (He.ga K "LosingLog") "__init__" = He.ma K (He.ga K "Log") "__init__"),
  He.eqO (PySem.W.findIn K (.ref (He.ga K "Log")) "__ne__") (some (some (.builtin "object.__ne__"))),
  He.eqO (PySem.W.findIn K (.ref (He.ga K "LosingLog")) "__ne__") (some (some (.builtin "object.__ne__")))]
def ex (K : PySem.W.Frag) : Bool := (lfL K).all id && (fax K).all id
def loose0 : List PySem.Str := ["_wall", "BookError", "InvalidSize", "InvalidServers", "InvalidEntries", "InvalidNumber", "InvalidOwners", "InvalidLog", "TooLarge", "NotPossible", "GREATEST_SIZE", "MOST_SERVERS", "MOST_LETTERS", "MOST_ENTRIES", "is_integer", "is_natural", "is_size", "is_name", "are_servers", "is_server", "is_entry", "check_size", "check_servers", "check_entries", "check_count", "Sight", "sight_of", "find_obstacle", "find_pair", "find_twice"]
def loose1 : List PySem.Str := ["find_shared", "find_back", "pushed_steps", "check_possible", "check_entries_possible", "Reach", "GREATEST_BLOCK", "owners_by_block", "count_rows", "count_lists", "nth_list", "list_index", "place_in", "Log", "LosingLog", "new_log", "_law_jar", "_law_tap", "_law_names", "_law_step", "_law_scene", "_law_made", "_law_later_right", "_law_right"]
def loose : List PySem.Str := loose0 ++ loose1
abbrev R : PySem.W.OpenRow := PySem.W.OpenLaw.row PySem.Challenge.rw_numberbooks_k26_whole_counts_of_alike_lo
/-- every object below n, the last made first -/
def seeN (n : Nat) (ex : PySem.W.Frag → Bool) (fs : List NbH.DefA) (g : Addr → Option Obj) : NbH.Alp := NbH.seeA ex fs (He.frG g (List.range n).reverse)
def hookN (n : Nat) (ex : PySem.W.Frag → Bool) (fs : List NbH.DefA) : PySem.W.Hook where
  α := NbH.Alp
  obs := fun s => seeN n ex fs s.heap.get?
  val := fun _ => NbH.dueA fs
  says := fun _ h => ∃ K : PySem.W.Frag, K.In h ∧ NbH.Told ex fs K
  of := fun _ _ q => ⟨_, He.frG_in, q⟩
  keeps := fun _ _ _ ⟨K, a, b⟩ c => ⟨K, PySem.W.Frag.In.keeps a c, b⟩
abbrev hk : PySem.W.Hook := hookN 1500 ex dfs
def ob (s : PySem.W.SharedT) : NbH.Alp := seeN 1500 ex dfs (HandSHeadRun.getT s)
theorem ob_eq (s : PySem.W.SharedT) : ob s = hk.obs s.abs := congrArg (seeN 1500 ex dfs) (funext (HandSHeadRun.getT_eq s))
theorem top_runs (w : World) : HandSHeadRun.RunEq R (PySem.W.view R.prog [61]) hk ob 12000 loose w := by
  intro os
  kernel_rfl
end LawP
set_option Elab.async false
set_option linter.all false
set_option maxRecDepth 100000
set_option maxHeartbeats 4000000
/-! Loops and comprehensions, read as they stand. -/
namespace NbF
open PySem PySem.Spec PyProof.Rows L2 Nb
section
variable {K : PySem.W.Frag} {ta : TA} {te tl : TE} {tt : TT} {g : TG} {tb : TS} {D : Ends} {σ : L2.St} {H : Hp} {Q : VK} {vs : List Nat} {a : Addr} {xs : List V}
/-- what is asked of a loop over J -/
def LoopR (J : L2.It) (g : TG) (tb : TS) (D : Ends) (σ : L2.St) (H : Hp) : Prop := ∃ W : Nat → Nat → L2.St → Hp → Prop, (∃ m, W 0 m σ H) ∧ ∀ i m σ H, W i m σ H →
  (J.stop i H ∧ D.nx σ H) ∨ (J.go i H ∧ ∃ N : L2.St → Hp → Prop, (∀ σ' H', N σ' H' → ∃ m', m' < m ∧ W (i + 1) m' σ' H') ∧ ∀ x H', J.yld i H x H' → g x σ H' fun σ2 H2 => tb { D with nx := N, ct := N, bk := D.nx } σ2 H2)
theorem tFor_eq (wi : TI) : tFor wi g tb D σ H = wi σ H fun J H1 => LoopR J g tb D σ H1 := rfl
theorem loop_rng {n : Nat} (Pv : Nat → L2.St → Hp → Prop) (h0 : Pv 0 σ H) (hs : ∀ (i : Nat) σ' H', i < n → Pv i σ' H' → g (.int (i : Int)) σ' H' fun σ2 H2 => tb { D with nx := Pv (i + 1), ct := Pv (i + 1), bk := D.nx } σ2 H2)
    (hd : ∀ σ' H', Pv n σ' H' → D.nx σ' H') : LoopR (Itr 0 n) g tb D σ H := for_range (lo := 0) (n := n) Pv h0 (fun i σ' H' hi p => by
  have e : (0 : Int) + (i : Int) = (i : Int) := Int.zero_add _
  rw [e]
  exact hs i σ' H' hi p) hd
theorem loop_list (xs : List V) (Pv : Nat → L2.St → Hp → Prop) (h0 : Pv 0 σ H) (hl : ∀ i σ' H', i ≤ xs.length → Pv i σ' H' → SqL K H' a xs)
    (hs : ∀ (i : Nat) x σ' H', xs[i]? = some x → Pv i σ' H' → g x σ' H' fun σ2 H2 => tb { D with nx := Pv (i + 1), ct := Pv (i + 1), bk := D.nx } σ2 H2) (hd : ∀ σ' H', Pv xs.length σ' H' → D.nx σ' H') : LoopR (Itl K a) g tb D σ H :=
  for_list Pv h0 hl hs hd
/-- what is asked of a list comprehension over J, its list at L -/
def CompR (J : L2.It) (g : TG) (tt : TT) (te : TE) (vs : List Nat) (σ : L2.St) (H1 : Hp) (L : Addr) (Q : VK) : Prop := ∃ W : Nat → Nat → Hp → Prop, (∃ m, W 0 m (upd H1 L (.lst []))) ∧ ∀ i m H, W i m H →
  (J.stop i H ∧ Q (.ref L) H) ∨ (J.go i H ∧ ∃ Nx : Hp → Prop, (∀ H', Nx H' → ∃ m', m' < m ∧ W (i + 1) m' H') ∧ ∀ x H', J.yld i H x H' → g x (wipe σ vs) H' fun σ2 H2 => wipe σ2 vs = wipe σ vs ∧ tt σ2 H2 fun b H3 =>
    if b = true then te σ2 H3 fun y H4 => ∃ acc, H4 L = some (.lst acc) ∧ acc.length < sizeLine ∧ Nx (upd H4 L (.lst (acc ++ [y]))) else Nx H3)
theorem tLc_eq (wi : TI) : tLc wi g tt te vs σ H Q = wi σ H fun J H1 => ∀ L, H1 L = none → CompR J g tt te vs σ H1 L Q := rfl
theorem comp_rng {n : Nat} {L : Addr} (Pv : Nat → Hp → Prop) (h0 : Pv 0 (upd H L (.lst [])))
    (hs : ∀ (i : Nat) H', i < n → Pv i H' → g (.int (i : Int)) (wipe σ vs) H' fun σ2 H2 => wipe σ2 vs = wipe σ vs ∧ tt σ2 H2 fun b H3 =>
      if b = true then te σ2 H3 fun y H4 => ∃ acc, H4 L = some (.lst acc) ∧ acc.length < sizeLine ∧ Pv (i + 1) (upd H4 L (.lst (acc ++ [y]))) else Pv (i + 1) H3) (hd : ∀ H', Pv n H' → Q (.ref L) H') : CompR (Itr 0 n) g tt te vs σ H L Q :=
  lc_range (lo := 0) (n := n) Pv h0 (fun i H' hi p => by
    have e : (0 : Int) + (i : Int) = (i : Int) := Int.zero_add _
    rw [e]
    exact hs i H' hi p) hd
theorem comp_list (xs : List V) {L : Addr} (Pv : Nat → Hp → Prop) (h0 : Pv 0 (upd H L (.lst []))) (hl : ∀ i H', i ≤ xs.length → Pv i H' → SqL K H' a xs)
    (hs : ∀ (i : Nat) x H', xs[i]? = some x → Pv i H' → g x (wipe σ vs) H' fun σ2 H2 => wipe σ2 vs = wipe σ vs ∧ tt σ2 H2 fun b H3 =>
      if b = true then te σ2 H3 fun y H4 => ∃ acc, H4 L = some (.lst acc) ∧ acc.length < sizeLine ∧ Pv (i + 1) (upd H4 L (.lst (acc ++ [y]))) else Pv (i + 1) H3) (hd : ∀ H', Pv xs.length H' → Q (.ref L) H') : CompR (Itl K a) g tt te vs σ H L Q :=
  lc_list (xs := xs) Pv h0 hl hs hd
end
/-! ### numbers -/
set_option exponentiation.threshold 3000 in
theorem div_ok {i n : Int} (h0 : 0 < n) (h : n ≤ 10 ^ 200) : CDivW i n := wide_div (b := 700) h0 (Nat.lt_of_le_of_lt (show n.natAbs ≤ 10 ^ 200 by omega) (by decide)) (by decide) (by decide)
set_option exponentiation.threshold 3000 in
theorem bits_le {n : Int} (h0 : 0 < n) (h : n ≤ 10 ^ 200) : Builtin.Int.intBits n ≤ 701 := by
  unfold Builtin.Int.intBits
  split
  · omega
  · have h1 : n.natAbs < 2 ^ 700 := Nat.lt_of_le_of_lt (show n.natAbs ≤ 10 ^ 200 by omega) (by decide)
    have h2 : n.natAbs.log2 < 700 := (Nat.log2_lt (by omega)).mpr h1
    omega
theorem mod_p (i : Int) : 0 ≤ i % 2305843009213693951 ∧ i % 2305843009213693951 < 2305843009213693951 := ⟨Int.emod_nonneg _ (by decide), Int.emod_lt_of_pos _ (by decide)⟩
theorem cm_l {i j : Int} : CMul (i % 2305843009213693951) j := .inl ⟨by have := (mod_p i).1; omega, by have := (mod_p i).2; omega⟩
theorem cm_r {i j : Int} : CMul j (i % 2305843009213693951) := .inr ⟨by have := (mod_p i).1; omega, by have := (mod_p i).2; omega⟩
theorem cp_3 {i : Int} : CPow (i % 2305843009213693951) 3 := ⟨by decide, by decide, by
  have h1 := mod_p i
  omega⟩
theorem div_c {i j : Int} (h0 : 0 < j) (h : j ≤ 1000000) : CDivW i j := div_ok h0 (Int.le_trans h (by decide))
/-! ### texts in a list -/
open NbS
theorem inV_strs (z : Str) (ns : List Str) : inV (.str z) (ns.map V.str) = decide (z ∈ ns) := by
  unfold inV
  rw [List.any_map, Bool.eq_iff_iff, List.any_eq_true, decide_eq_true_iff]
  exact ⟨fun ⟨y, h1, h2⟩ => by
    have e : y = z := eq_of_beq h2
    exact e ▸ h1, fun h => ⟨z, h, beq_self_eq_true z⟩⟩
theorem flat_strs (ns : List Str) : (ns.map V.str).all flatV = true := by
  rw [List.all_eq_true]
  intro v hv
  obtain ⟨z, _, rfl⟩ := List.mem_map.mp hv
  rfl
theorem in_crew {K : PySem.W.Frag} {H : Hp} {c : Addr} {ns : List Str} {z : Str} {Q : VK} (h : CrewAt H c ns) (q : Q (.bl (decide (z ∈ ns))) H) : rIn K false (.str z) (.ref c) H Q :=
  ⟨c, _, rfl, .inl (SqL.of h), rfl, flat_strs ns, by rw [inV_strs]; exact q⟩
theorem name_no {z : Str} (h : 8 < z.length) : nameOk z = false := by
  unfold nameOk
  rw [decide_eq_false (by omega)]
  rfl
theorem sz_le {n : Nat} (h : n ≤ 100000) : n ≤ sizeLine := Nat.le_trans h (by decide)
theorem sz_lt {n : Nat} (h : n < 100000) : n < sizeLine := Nat.lt_of_lt_of_le h (by decide)
theorem b1 : isB .lst "list" = true := by decide +kernel
theorem b2 : isB .tup "tuple" = true := by decide +kernel
theorem b3 : isB .str "str" = true := by decide +kernel
theorem b4 : isB .int "int" = true := by decide +kernel
theorem b5 : isB .int "bool" = false := by decide +kernel
theorem dk1 : (Kd.int == Kd.int) = true := by decide
section
variable {X : Cx} {K : PySem.W.Frag}
theorem ix_listK (hK : X.K = K) : IxR X (rIxL K) := hK ▸ ix_list
theorem ix_tupK (hK : X.K = K) : IxR X (rIxT K) := hK ▸ ix_tup
theorem sl_listK (hK : X.K = K) : SlR X (rSlL K) := hK ▸ sl_list
theorem pg_tupK {es : List Expr} {k : Nat} {t : TGs} {n : Nat} {pos : Pos} (hK : X.K = K) (hc : X.calm = true) (h : PGs X es t) (hn : (assignEach es X.env).length = n := by rfl) (hst : (assignEach es X.env).findIdx? (·.1) = none := by rfl) :
    PG X (.Tuple es k pos) (gTup K n t) := hK ▸ pg_tup hc h hn hst
theorem call_isiK' (hK : X.K = K) : CallR X (.builtin "isinstance") (rIsi K) := hK ▸ call_isi
theorem call_lenK (hK : X.K = K) : CallR X (.builtin "len") (fun xs H Q => ∃ p ys, xs = [.ref p] ∧ (SqL K H p ys ∨ SqT K H p ys) ∧ Q (.int ys.length) H) := hK ▸ call_len_seq
theorem op_in_seqK (hK : X.K = K) : OpR X (compareOp .In) (rIn K false) := hK ▸ op_in_seq
theorem op_eqDK (hK : X.K = K) (hu : X.A.units + 64 < cLine) : OpR X (compareOp .Eq) (rEqD K) := hK ▸ op_eqD hu
theorem op_neDK (hK : X.K = K) (hu : X.A.units + 64 < cLine) : OpR X (compareOp .NotEq) (rNeD K) := hK ▸ op_neD hu
theorem pe_fldK {e : Expr} {f : Str} {pos : Pos} {ta : TE} (hK : X.K = K) (he : PE X e ta) (hb : attributeBase e f X.env (eval e X.env) = eval e X.env) : PE X (.Attribute e f pos) (tFld K ta f) := hK ▸ pe_fld he hb
end
section
variable {X : Cx} {K : PySem.W.Frag} {T id : String} {name : Str} {r : V → List V → Hp → VK → Prop} {o e : Expr} {es : List Expr} {to : TE} {t : TA} {apos cpos : Pos}
theorem pe_bm0K (hK : X.K = K) (pa : PlainAttrs T) (slot : Slot T name id) (hty : typeOf (.builtin id) = pure (.type "method_descriptor")) (hm : MtR X id r) (ho : PE X o to)
    (hb : attributeBase o name X.env (eval o X.env) = eval o X.env := by rfl) (hl : (apos.endLine == cpos.line) = true := by rfl) : PE X (.Call (.Attribute o name apos) [] [] cpos) (tBM0 K T r to) := hK ▸ pe_bm0 pa slot hty hm ho hb hl
theorem pe_bmK (hK : X.K = K) (pa : PlainAttrs T) (slot : Slot T name id) (hty : typeOf (.builtin id) = pure (.type "method_descriptor")) (hm : MtR X id r) (ho : PE X o to) (ha : PA X (e :: es) t)
    (hb : attributeBase o name X.env (eval o X.env) = eval o X.env := by rfl)
    (hf : ((backTo cpos (starEach (e :: es) X.env)).all (fun x => !x.1) && (backToKw cpos (keywordEach [] X.env)).all (fun x => x.1.isSome) && decide ((e :: es).length + ([] : List Keyword).length + (if ([] : List Keyword).isEmpty then 0 else 1) < 30)) = true := by rfl)
    (hl : (apos.endLine == cpos.line) = true := by rfl) (hs : starEach (e :: es) X.env = (false, eval e X.env) :: starEach es X.env := by rfl) (hp : (backTo cpos (starEach es X.env)).any (·.1) = false := by rfl) :
    PE X (.Call (.Attribute o name apos) (e :: es) [] cpos) (tBM K T r to t) := hK ▸ pe_bm pa slot hty hm ho ha hb hf hl hs hp
open NbE in
theorem two_eqK {C : Two} {k : Nat} {f : Addr} {sp : Sp} (hK : X.K = K) (Z : TwoOk X.K C f) (F : At X k f sp) (hr : Room k X.A) : OpR X (compareOp .Eq) (rTwo K C sp (fun b => b)) := hK ▸ two_eq Z F hr
open NbE in
theorem two_neK {C : Two} {k : Nat} {f : Addr} {sp : Sp} (hK : X.K = K) (Z : TwoOk X.K C f) (F : At X k f sp) (hr : Room (k + 1) X.A) : OpR X (compareOp .NotEq) (rTwo K C sp not) := hK ▸ two_ne Z F hr
end
/-- a statement ahead of others, told by what is true behind it -/
theorem cut_seq {ta tb : TS} {D : Ends} {σ : L2.St} {H : Hp} (M : L2.St → Hp → Prop) (h1 : ∀ N : L2.St → Hp → Prop, (∀ σ' H', M σ' H' → N σ' H') → ta { D with nx := N } σ H) (h2 : ∀ σ' H', M σ' H' → tb D σ' H') : tSeq ta tb D σ H := h1 _ h2
theorem ents_ok {ns : List Str} {es : List En} {lim : Int} {n : Nat} (hn : n ≤ 200) (hl : es.length ≤ n) (h : ∀ e ∈ es, e.1 ∈ ns ∧ 0 ≤ e.2 ∧ e.2 < lim) : EnsOk ns es := ⟨by omega, fun e he => by
  obtain ⟨h1, h2, _⟩ := h e he
  unfold enOk
  rw [decide_eq_true h1, decide_eq_true h2]
  rfl⟩
theorem ifN {c A B : Prop} [Decidable c] (h : ¬ c) (b : B) : if c then A else B := by rw [if_neg h]; exact b
theorem ifP {c A B : Prop} [Decidable c] (h : c) (a : A) : if c then A else B := by rw [if_pos h]; exact a
theorem upd_keep {H : Hp} {p b : Addr} {o u : HO} (h : H b = some u) (n : b ≠ p) : upd H p o b = some u := by rw [upd_ne n]; exact h
theorem rall {K : PySem.W.Frag} {H : Hp} {L : Addr} {bs : List Bool} {Q : VK} (h : H L = some (.lst (bs.map V.bl))) (q : Q (.bl (bs.all id)) H) : rAll K [.ref L] H Q := ⟨L, bs, rfl, SqL.of h, q⟩
theorem all_rep (n : Nat) : ((List.replicate n true).all id) = true := by
  rw [List.all_eq_true]
  intro x hx
  exact (List.mem_replicate.mp hx).2
theorem rep_snoc (n : Nat) : (List.replicate n true).map V.bl ++ [V.bl true] = (List.replicate (n + 1) true).map V.bl := by
  rw [List.replicate_succ', List.map_append]
  rfl
theorem CrewAt.sq {K : PySem.W.Frag} {H : Hp} {c : Addr} {ns : List Str} (h : CrewAt H c ns) : SqL K H c (ns.map V.str) := SqL.of h
/-- the same list's copy -/
theorem EntsAt.copy {H H' : Hp} {s l : Addr} {es : List En} {ts : List Addr} (h : Ents H ts es) (k : ∀ t xs, H t = some (.tup xs) → H' t = some (.tup xs)) (hl : H' l = some (.lst (ts.map V.ref))) : EntsAt H' l es := ⟨ts, hl, h.imp k⟩
theorem cut_to {xs : List V} {n : Nat} (h : n ≤ xs.length) : cutV xs none (some (n : Int)) = xs.take n := by
  unfold cutV
  rw [HT.sIx_none, HT.sIx_nat, Nat.min_eq_left h, Nat.sub_zero, List.drop_zero]
theorem cut_from (xs : List V) (n : Nat) : cutV xs (some (n : Int)) none = xs.drop n := by
  unfold cutV
  rw [HT.sIx_none, HT.sIx_nat]
  by_cases h : n ≤ xs.length
  · rw [Nat.min_eq_left h]
    exact List.take_of_length_le (by rw [List.length_drop]; exact Nat.le_refl _)
  · rw [Nat.min_eq_right (by omega), Nat.sub_self, List.take_zero, List.drop_of_length_le (by omega)]
theorem cut_to' (xs : List V) (n : Nat) : cutV xs none (some (n : Int)) = xs.take n := by
  by_cases h : n ≤ xs.length
  · exact cut_to h
  · unfold cutV
    rw [HT.sIx_none, HT.sIx_nat, Nat.min_eq_right (by omega), Nat.sub_zero, List.drop_zero, List.take_length, List.take_of_length_le (by omega)]
/-! ### the law's names -/
theorem n12_ok : ∀ z ∈ N12, nameOk z = true := by
  have h : N12.all nameOk = true := by decide +kernel
  exact fun z hz => List.all_eq_true.mp h z hz
theorem n12_nd : N12.Nodup := by decide +kernel
theorem crew_of {ns left : List Str} (h1 : 1 ≤ ns.length) (h2 : ns.length ≤ 12) (h : (ns ++ left).Perm N12) : Crew ns :=
  ⟨⟨h1, h2⟩, (List.nodup_append.mp (h.nodup_iff.mpr n12_nd)).1, fun z hz => n12_ok z (h.subset (List.mem_append_left _ hz))⟩
theorem erase_perm {α : Type} : ∀ (l : List α) (k : Nat) (h : k < l.length), ([l[k]] ++ l.eraseIdx k).Perm l
  | [], _, h => absurd h (Nat.not_lt_zero _)
  | x :: l, 0, _ => .refl _
  | x :: l, k + 1, h => by
    have h' : k < l.length := Nat.lt_of_succ_lt_succ h
    show ([l[k]] ++ (x :: l.eraseIdx k)).Perm (x :: l)
    exact (List.Perm.swap x l[k] _).trans (.cons x (erase_perm l k h'))
theorem map_erase {α β : Type} (f : α → β) : ∀ (l : List α) (k : Nat), (l.map f).eraseIdx k = (l.eraseIdx k).map f
  | [], _ => rfl
  | _ :: _, 0 => rfl
  | x :: l, k + 1 => congrArg (f x :: ·) (map_erase f l k)
theorem pop_perm {ns left : List Str} {k : Nat} {z : Str} (h : (ns ++ left).Perm N12) (hk : left[k]? = some z) : ((ns ++ [z]) ++ left.eraseIdx k).Perm N12 := by
  refine List.Perm.trans ?_ h
  rw [List.append_assoc]
  refine List.Perm.append_left ns ?_
  obtain ⟨hl, e⟩ := List.getElem?_eq_some_iff.mp hk
  subst e
  exact erase_perm left k hl
/-- a log made -/
theorem mk_newX {K : PySem.W.Frag} {H : Hp} {Q : VK} {b : Bool} {z : Int} {c s : Addr} {ns : List Str} {es : List En} (hw : WF z ns es) (hc : CrewAt H c ns) (hs : EntsAt H s es) (q : NewLogX K H Q b z ns es) :
    ∀ x dx : Addr, H x = none → H dx = none → dx ≠ x → sp_Log_init K [.ref x, .int z, .ref c, .ref s] (upd (upd H dx (.own x)) x (.ins (C2 K b) dx [])) (fun v H2 => v = .non ∧ Q (.ref x) H2) C8.E0 := by
  intro x dx hx hd hn
  have e1 : Same H (upd H dx (.own x)) := Same.new (Same.refl _) hd
  have e2 : Same H (upd (upd H dx (.own x)) x (.ins (C2 K b) dx [])) := Same.new e1 (by rw [upd_ne hn.symm]; exact hx)
  refine ⟨x, dx, b, z, c, s, ns, es, rfl, upd_same, hw, hc.same e2, hs.same e2, fun H' ls le k hl h1 h2 => ⟨rfl, q x H' ls le hx (fun a o h => k a o (fun e => ?_) (e2 a o h)) hl (e2.free h1) (e2.free h2)⟩⟩
  rw [e, hx] at h
  cases h
theorem mk_new {K : PySem.W.Frag} {H : Hp} {Q : VK} {b : Bool} {z : Int} {c s : Addr} {ns : List Str} {es : List En} (hw : WF z ns es) (hc : CrewAt H c ns) (hs : EntsAt H s es) (q : NewLog K H Q b z ns es) :
    ∀ x dx : Addr, H x = none → H dx = none → dx ≠ x → sp_Log_init K [.ref x, .int z, .ref c, .ref s] (upd (upd H dx (.own x)) x (.ins (C2 K b) dx [])) (fun v H2 => v = .non ∧ Q (.ref x) H2) C8.E0 := mk_newX hw hc hs q.x
/-! ### entries in a list -/
theorem ne_nil {K : PySem.W.Frag} {H : Hp} {s p : Addr} {es : List En} {ns : List Str} {Q : VK} (hs : EntsAt H s es) (hp : H p = some (.lst [])) (hn : Crew ns) (hw : EnsOk ns es) (q : Q (.bl (decide (es ≠ []))) H) : rNeD K (.ref s) (.ref p) H Q := by
  refine ⟨_, _, hs.dp, .lst (SqL.of hp) .nil, shaped_ens hn hw, by decide +kernel, ?_⟩
  show Q (.bl (!PyData.eqvAll (es.map enD) (([] : List En).map enD))) H
  rw [eqv_ens]
  simpa using q
theorem eq_int {i j : Int} {H : Hp} {Q : VK} (q : Q (.bl (decide (i = j))) H) : rEq (.int i) (.int j) H Q := by
  refine ⟨rfl, ?_⟩
  have e : decide (V.int i = V.int j) = decide (i = j) := decide_eq_decide.mpr ⟨fun h => V.int.inj h, fun h => by rw [h]⟩
  rw [e]
  exact q
theorem EntsAt.at {H : Hp} {s : Addr} {es : List En} (h : EntsAt H s es) {a : Int} (h0 : 0 ≤ a) (h1 : a < (es.length : Int)) : ∃ xs t e, H s = some (.lst xs) ∧ atI xs a = some (.ref t) ∧ H t = some (.tup [.str e.1, .int e.2]) ∧ es[a.toNat]? = some e ∧ e ∈ es := by
  obtain ⟨ts, hs, ht⟩ := h
  obtain ⟨k, rfl⟩ : ∃ k : Nat, a = (k : Int) := ⟨a.toNat, by omega⟩
  have hk : k < es.length := by omega
  obtain ⟨t, g1, g2⟩ := ht.get' (List.getElem?_eq_getElem hk)
  exact ⟨_, t, es[k], hs, atI_nat (by rw [List.getElem?_map, g1]; rfl), g2, List.getElem?_eq_getElem hk, List.getElem_mem hk⟩
theorem ixN_n {n j : Nat} (hj : j < n) : ixN n (j : Int) = some j := by
  unfold ixN
  rw [if_pos (by omega), if_pos (by omega)]
  simp
theorem Stp.free0 {fa p : Addr} {H H' H2 : Hp} (e : Stp fa H H') (s : Same H' H2) (h : H2 p = none) : H p = none := e.free ((e.same s).fd.ne h) (s.free h)
theorem EntsAt.put {H : Hp} {x t : Addr} {es : List En} {e : En} (h : EntsAt H x es) (ht : H t = some (.tup [.str e.1, .int e.2])) {a : Int} (h0 : 0 ≤ a) (h1 : a < (es.length : Int)) :
    ∃ xs k, H x = some (.lst xs) ∧ ixN xs.length a = some k ∧ EntsAt (upd H x (.lst (xs.set k (.ref t)))) x (es.set k e) := by
  obtain ⟨ts, hs, hts⟩ := h
  obtain ⟨k, rfl⟩ : ∃ k : Nat, a = (k : Int) := ⟨a.toNat, by omega⟩
  have hl := hts.len
  refine ⟨_, k, hs, ixN_n (by rw [List.length_map]; omega), ts.set k t, by rw [upd_same, List.map_set], ?_⟩
  exact Ents.set (upd_keep ht (ne_of ht hs (by simp))) k (hts.imp fun b xs g => upd_keep g (ne_of g hs (by simp)))
theorem ens_set {ns : List Str} {es : List En} {e : En} (h : EnsOk ns es) (he : enOk ns e = true) (k : Nat) : EnsOk ns (es.set k e) := ⟨by rw [List.length_set]; exact h.few, fun x hx => by
  rcases List.mem_or_eq_of_mem_set hx with g | g
  · exact h.ok x g
  · exact g ▸ he⟩
/-! ### own == and != -/
theorem two_logs {K : PySem.W.Frag} (F : LF K) {H : Hp} {x y : Addr} {b b' : Bool} {z z' : Int} {ns ns' : List Str} {es es' : List En} {g : Bool → Bool} {Q : VK} (h : LogAt K H x b z ns es) (h' : LogAt K H y b' z' ns' es')
    (q : Q (.bl (g (decide (b = b' ∧ z = z' ∧ ns = ns' ∧ es = es')))) H) : NbE.rTwo K (C2 K) (sp_Log_eq K) g (.ref x) (.ref y) H Q := by
  obtain ⟨dx, ls, le, h1, _⟩ := id h
  obtain ⟨dy, ls', le', h1', _⟩ := id h'
  refine ⟨x, b, dx, _, rfl, h1, ?_⟩
  by_cases hb : b = false ∧ b' = true
  · obtain ⟨rfl, rfl⟩ := hb
    refine .inl ⟨y, dy, _, rfl, rfl, h1', y, true, z', ns', es', .ref x, _, rfl, h', h.knd, .inr ⟨x, false, z, ns, es, rfl, h, _, rfl, ?_⟩⟩
    simpa using q
  · refine .inr ⟨_, h'.knd.ty F, Knd.not1st F _ _ (fun e => hb ⟨e.1, Kd.log.inj e.2⟩), x, b, z, ns, es, .ref y, _, rfl, h, h'.knd, .inr ⟨y, b', z', ns', es', rfl, h', _, rfl, q⟩⟩
theorem two_odd {K : PySem.W.Frag} (F : LF K) {H : Hp} {x : Addr} {y : V} {d : Kd} {b : Bool} {z : Int} {ns : List Str} {es : List En} {g : Bool → Bool} {Q : VK} (h : LogAt K H x b z ns es) (k : Knd K H y d) (n1 : d ≠ .log true) (n2 : d ≠ .log false)
    (q : Q (.bl (g false)) H) : NbE.rTwo K (C2 K) (sp_Log_eq K) g (.ref x) y H Q := by
  obtain ⟨dx, ls, le, h1, _⟩ := id h
  exact ⟨x, b, dx, _, rfl, h1, .inr ⟨_, k.ty F, Knd.not1st F _ _ (fun e => n1 e.2), x, b, z, ns, es, y, _, rfl, h, k, .inl ⟨n1, n2, _, rfl, q⟩⟩⟩
/-- a list of logs changed: a log stands -/
theorem LogAt.put {K : PySem.W.Frag} {H : Hp} {p ot : Addr} {os : List Addr} {u : HO} {b : Bool} {z : Int} {ns : List Str} {es : List En} (h : LogAt K H p b z ns es) (ho : H ot = some (.lst (os.map V.ref))) (hi : ∃ o ∈ os, ∃ C dx fs, H o = some (.ins C dx fs)) :
    LogAt K (upd H ot u) p b z ns es := by
  obtain ⟨dx, ls, le, h1, h2, ⟨ts, h3, h4⟩, h5⟩ := h
  obtain ⟨o, om, C, dx', fs', hoi⟩ := hi
  have n1 : p ≠ ot := ne_of h1 ho (by simp)
  have n2 : ls ≠ ot := by
    rintro rfl
    unfold CrewAt at h2
    rw [h2] at ho
    cases os with
    | nil => cases om
    | cons o os =>
      cases ns with
      | nil => cases ho
      | cons n ns => cases ho
  have n3 : le ≠ ot := by
    rintro rfl
    rw [h3] at ho
    have e : ts.map V.ref = os.map V.ref := HO.lst.inj (Option.some.inj ho)
    have e' : ts = os := by
      have := congrArg (List.map fun v : V => match v with | .ref a => a | _ => 0) e
      simpa [List.map_map, Function.comp_def] using this
    subst e'
    obtain ⟨i, hi⟩ := List.mem_iff_getElem?.mp om
    obtain ⟨en, _, g⟩ := h4.get hi
    rw [hoi] at g
    cases g
  refine ⟨dx, ls, le, upd_keep h1 n1, upd_keep h2 n2, ⟨ts, upd_keep h3 n3, h4.imp fun t xs g => upd_keep g (ne_of g ho (by simp))⟩, h5⟩
theorem LogAt.ins {K : PySem.W.Frag} {H : Hp} {p : Addr} {b : Bool} {z : Int} {ns : List Str} {es : List En} (h : LogAt K H p b z ns es) : ∃ C dx fs, H p = some (.ins C dx fs) := by
  obtain ⟨dx, ls, le, h1, _⟩ := h
  exact ⟨_, _, _, h1⟩
theorem rev_ne {ns : List Str} (h : ns.Nodup) (hl : 1 < ns.length) : ns ≠ ns.reverse := by
  match ns, h, hl with
  | a :: b :: r, h, _ =>
    intro e
    rw [List.reverse_cons] at e
    cases q : (b :: r).reverse with
    | nil => simp at q
    | cons x xs =>
      rw [q] at e
      injection e with e1 e2
      have hm : a ∈ (b :: r).reverse := by rw [q, e1]; exact List.mem_cons_self ..
      exact (List.nodup_cons.mp h).1 (List.mem_reverse.mp hm)
theorem enOk_sub {ns ms : List Str} {e : En} (h : ∀ x ∈ ns, x ∈ ms) (k : enOk ns e = true) : enOk ms e = true := by
  unfold enOk at k ⊢
  simp only [Bool.and_eq_true, decide_eq_true_eq] at k ⊢
  exact ⟨h _ k.1, k.2⟩
theorem ensOk_sub {ns ms : List Str} {es : List En} (h : ∀ x ∈ ns, x ∈ ms) (k : EnsOk ns es) : EnsOk ms es := ⟨k.few, fun e he => enOk_sub h (k.ok e he)⟩
/-- an empty list is no other than an empty one -/
theorem no_nil {K : PySem.W.Frag} {H : Hp} {l p : Addr} {Q : VK} (hl : H l = some (.lst [])) (hp : H p = some (.lst [])) (q : Q (.bl false) H) : rNeD K (.ref l) (.ref p) H Q :=
  ⟨.list [], .list [], .lst (SqL.of hl) .nil, .lst (SqL.of hp) .nil, by decide +kernel, by decide +kernel, q⟩
theorem shaped_b3 (a b c : Bool) : SeqAt.shaped (.list [.bool a, .bool b, .bool c]) = true := by cases a <;> cases b <;> cases c <;> decide +kernel
theorem eqv_b3 (d : Bool) : (!PyData.eqv (.list [.bool (id d), .bool (id d), .bool (not d)]) (.list [.bool d, .bool d, .bool (!d)])) = false := by cases d <;> decide +kernel
theorem b3_dp {K : PySem.W.Frag} {H : Hp} {p : Addr} {a b c : Bool} (h : H p = some (.lst [.bl a, .bl b, .bl c])) : Dp K H (.ref p) (.list [.bool a, .bool b, .bool c]) := .lst (SqL.of h) (.cons (.bl _) (.cons (.bl _) (.cons (.bl _) .nil)))
theorem sqL_same {K : PySem.W.Frag} {H H' : Hp} {a : Addr} {xs : List V} (h : SqL K H a xs) (e : Same H H') : SqL K H' a xs :=
  h.elim (fun h => .inl (h.elim (fun h => .inl (e _ _ h)) fun ⟨o, h⟩ => .inr ⟨o, e _ _ h⟩)) fun h => .inr h
/-- a feed that was not there: all that was stands -/
theorem Stp.out {fa : Addr} {H H1 H2 : Hp} (e : Same H H1) (h : H fa = none) (s : Stp fa H1 H2) : Same H H2 := fun b o g => s.kp b o (fun q => by rw [q, h] at g; cases g) (e b o g)
theorem wf_a : WF 5 [("a" : Str)] [] := ⟨⟨by decide, by decide +kernel⟩, ⟨by decide, by decide +kernel, by decide +kernel⟩, ⟨by decide, fun _ h => nomatch h⟩⟩
/-- Log(5, ["a"], []) -/
theorem mk_a {K : PySem.W.Frag} {H : Hp} {Pn : Addr → Hp → Prop} {b : Bool} {p p1 : Addr} (hp : H p = none) (hp1 : upd H p (.lst [.str "a"]) p1 = none) (q : ∀ x H', Same H H' → LogAt K H' x b 5 ["a"] [] → Pn x H') :
    ∀ x dx : Addr, upd (upd H p (.lst [.str "a"])) p1 (.lst []) x = none → upd (upd H p (.lst [.str "a"])) p1 (.lst []) dx = none → dx ≠ x →
      sp_Log_init K [.ref x, .int 5, .ref p, .ref p1] (upd (upd (upd (upd H p (.lst [.str "a"])) p1 (.lst [])) dx (.own x)) x (.ins (C2 K b) dx [])) (fun v H2 => v = .non ∧ Pn x H2) C8.E0 := by
  intro x dx hx hd hn
  have s2 := Same.new (o := .lst []) (Same.new (o := .lst [.str "a"]) (Same.refl H) hp) hp1
  obtain ⟨p', dx', b', z, c, s, ns, es, h1, h2, h3, h4, h5, h6⟩ := mk_new (Q := fun v H2 => ∀ a, v = .ref a → Pn a H2) (b := b) wf_a (upd_keep upd_same (ne_of_none upd_same hp1)) (s := p1) (es := []) ⟨[], upd_same, trivial⟩ (fun x H' _ e h a ea => by
    cases ea
    exact q _ _ (s2.trans e) h) x dx hx hd hn
  refine ⟨p', dx', b', z, c, s, ns, es, h1, h2, h3, h4, h5, fun H' ls le k hl h7 h8 => ?_⟩
  obtain ⟨g1, g2⟩ := h6 H' ls le k hl h7 h8
  exact ⟨g1, g2 x rfl⟩
end NbF

set_option Elab.async false
set_option linter.all false
set_option maxRecDepth 100000
set_option maxHeartbeats 4000000
/-! How long the text of data is. -/
namespace NbP
open PySem PySem.Spec PyProof.Rows L2 Nb NbS NbF
structure Shw (W D : Nat) (d : PyData) : Prop where
  sh : d.showable = true
  nd : d.hasDict = false
  lv : d.leavesShort 70 = true
  wt : d.weight ≤ W
  dp : d.depth ≤ D
theorem Shw.fits {W D : Nat} {d : PyData} (h : Shw W D d) (hW : W ≤ 200000) : d.shown.length ≤ sizeLine := by
  have h1 := PyData.shown_le 70 (by decide) d h.lv
  have h2 : (70 + 2) * d.weight ≤ (70 + 2) * 200000 := Nat.mul_le_mul_left _ (Nat.le_trans h.wt hW)
  rw [sizeLine_eq]
  omega
theorem Shw.mono {W D W' D' : Nat} {d : PyData} (h : Shw W D d) (hW : W ≤ W') (hD : D ≤ D') : Shw W' D' d := ⟨h.sh, h.nd, h.lv, Nat.le_trans h.wt hW, Nat.le_trans h.dp hD⟩
theorem shw_int {i : Int} (h1 : -(10 ^ 60) < i) (h2 : i < 10 ^ 60) : Shw 201 0 (.int i) := by
  have hn : i.natAbs < 10 ^ 60 := by omega
  have hb : i.natAbs < 2 ^ 200 := Nat.lt_of_lt_of_le hn (by decide)
  have hl : i.natAbs.log2 < 200 := by
    by_cases h0 : i.natAbs = 0
    · rw [h0]; decide
    · exact (Nat.log2_lt h0).mpr hb
  refine ⟨?_, rfl, ?_, ?_, Nat.le_refl _⟩
  · unfold PyData.showable
    exact decide_eq_true (by omega)
  · unfold PyData.leavesShort
    refine decide_eq_true ?_
    unfold PyData.shown
    rw [PySem.ofString_length]
    exact Nat.le_trans (int_text_length_le10 (k := 60) (by decide) hn) (by decide)
  · unfold PyData.weight
    split <;> omega
theorem shw_name {z : Str} (h : nameOk z = true) : Shw 8 0 (.str z) := by
  have h8 : z.length ≤ 8 := by
    unfold nameOk at h
    simp only [Bool.and_eq_true, decide_eq_true_eq] at h
    exact h.1
  refine ⟨by unfold PyData.showable; rfl, by unfold PyData.hasDict; rfl, ?_, ?_, by unfold PyData.depth; exact Nat.le_refl _⟩
  · have g := strOk_of h
    unfold PyData.leavesShort
    rw [List.all_eq_true]
    intro c hc
    have g' : (z.cps.all fun c => decide (c < 0x110000)) = true := g
    rw [← Array.all_toList, List.all_eq_true] at g'
    have := of_decide_eq_true (g' c hc)
    exact decide_eq_true (Nat.lt_of_lt_of_le this (by decide))
  · unfold PyData.weight
    exact h8
theorem shw_all {W D : Nat} : ∀ {ds : List PyData}, (∀ d ∈ ds, Shw W D d) → PyData.showableAll ds = true ∧ PyData.hasDictAll ds = false ∧ PyData.leavesShortAll 70 ds = true ∧ PyData.weightAll ds ≤ ds.length * (W + 1) ∧ PyData.depthAll ds ≤ D
  | [], _ => ⟨by unfold PyData.showableAll; rfl, by unfold PyData.hasDictAll; rfl, by unfold PyData.leavesShortAll; rfl, by unfold PyData.weightAll; omega, by unfold PyData.depthAll; omega⟩
  | d :: ds, h => by
    obtain ⟨a1, a2, a3, a4, a5⟩ := shw_all fun x hx => h x (List.mem_cons_of_mem _ hx)
    have b := h d (List.mem_cons_self ..)
    refine ⟨?_, ?_, ?_, ?_, ?_⟩
    · unfold PyData.showableAll; rw [b.sh, a1]; rfl
    · unfold PyData.hasDictAll; rw [b.nd, a2]; rfl
    · unfold PyData.leavesShortAll; rw [b.lv, a3]; rfl
    · unfold PyData.weightAll
      rw [List.length_cons, Nat.add_mul]
      have := b.wt
      omega
    · unfold PyData.depthAll
      exact Nat.max_le.mpr ⟨b.dp, a5⟩
theorem shw_list {W D n : Nat} {ds : List PyData} (h : ∀ d ∈ ds, Shw W D d) (hn : ds.length ≤ n) : Shw (n * (W + 1)) (D + 1) (.list ds) := by
  obtain ⟨a1, a2, a3, a4, a5⟩ := shw_all h
  refine ⟨by unfold PyData.showable; exact a1, by unfold PyData.hasDict; exact a2, by unfold PyData.leavesShort; exact a3, ?_, by unfold PyData.depth; omega⟩
  unfold PyData.weight
  exact Nat.le_trans a4 (Nat.mul_le_mul_right _ hn)
theorem shw_tup {W D n : Nat} {ds : List PyData} (h : ∀ d ∈ ds, Shw W D d) (hn : ds.length ≤ n) : Shw (n * (W + 1)) (D + 1) (.tuple ds) := by
  obtain ⟨a1, a2, a3, a4, a5⟩ := shw_all h
  refine ⟨by unfold PyData.showable; exact a1, by unfold PyData.hasDict; exact a2, by unfold PyData.leavesShort; exact a3, ?_, by unfold PyData.depth; omega⟩
  unfold PyData.weight
  exact Nat.le_trans a4 (Nat.mul_le_mul_right _ hn)
theorem shw_crew {ns : List Str} (h : Crew ns) : Shw 108 1 (.list (ns.map PyData.str)) := shw_list (W := 8) (n := 12) (fun d hd => by
  obtain ⟨z, hz, rfl⟩ := List.mem_map.mp hd
  exact shw_name (h.ok z hz)) (by rw [List.length_map]; exact h.few.2)
theorem shw_en {ns : List Str} (h : Crew ns) {e : En} (he : enOk ns e = true) (hl : e.2 < 10 ^ 60) : Shw 404 1 (enD e) := by
  unfold enOk at he
  simp only [Bool.and_eq_true, decide_eq_true_eq] at he
  refine shw_tup (W := 201) (n := 2) (fun d hd => ?_) (Nat.le_refl _)
  rcases List.mem_cons.mp hd with rfl | hd
  · exact (shw_name (h.ok _ he.1)).mono (by decide) (Nat.le_refl _)
  · cases List.mem_singleton.mp hd
    exact shw_int (by omega) hl
theorem shw_ens {ns : List Str} {es : List En} (h : Crew ns) (g : EnsOk ns es) (hl : ∀ e ∈ es, e.2 < 10 ^ 60) : Shw 81000 2 (.list (es.map enD)) := shw_list (W := 404) (n := 200) (fun d hd => by
  obtain ⟨e, he, rfl⟩ := List.mem_map.mp hd
  exact shw_en h (g.ok e he) (hl e he)) (by rw [List.length_map]; exact g.few)
/-- [size, servers, entries] as data -/
def logD (z : Int) (ns : List Str) (es : List En) : PyData := .list [.int z, .list (ns.map PyData.str), .list (es.map enD)]
theorem shw_log {z : Int} {ns : List Str} {es : List En} (hz : SizeOk z) (h : Crew ns) (g : EnsOk ns es) (hl : ∀ e ∈ es, e.2 < 10 ^ 60) : (logD z ns es).showable = true ∧ (logD z ns es).hasDict = false ∧ (logD z ns es).depth ≤ 60 ∧ (logD z ns es).shown.length ≤ sizeLine := by
  have k := shw_ens h g hl
  have k2 := shw_crew h
  have k1 : Shw 201 0 (.int z) := shw_int (by have := hz.1; omega) (by have := hz.2; omega)
  have w : (logD z ns es).weight ≤ 200000 := by
    unfold logD
    simp only [PyData.weight, PyData.weightAll] at *
    have a := k.wt
    have b := k2.wt
    have c := k1.wt
    simp only [PyData.weight] at a b c
    omega
  have s : Shw (3 * (81000 + 1)) 3 (logD z ns es) := shw_list (W := 81000) (D := 2) (n := 3) (fun d hd => by
    rcases List.mem_cons.mp hd with rfl | hd
    · exact k1.mono (by decide) (by decide)
    · rcases List.mem_cons.mp hd with rfl | hd
      · exact k2.mono (by decide) (by decide)
      · cases List.mem_singleton.mp hd
        exact k) (Nat.le_refl _)
  exact ⟨s.sh, s.nd, Nat.le_trans s.dp (by decide), Shw.fits (⟨s.sh, s.nd, s.lv, w, s.dp⟩ : Shw 200000 3 _) (Nat.le_refl _)⟩
end NbP

set_option Elab.async false
set_option linter.all false
set_option maxRecDepth 100000
set_option maxHeartbeats 4000000
/-! x in an object with an own __contains__; max(.., default=d) of whole numbers; an own class made by keywords alone. -/
namespace NbK
open PySem PySem.Spec PyProof.Rows L2 NbE
section
variable {M : Model} {A : Around} {E : Value → Shared → Prop} {s : Shared} {K : PySem.W.Frag} {x C f : Addr} {ox : Obj} {od : Option Obj} {v : Value}
open PySem.W in
theorem in_own {Q : Value → Shared → Prop} (X : K.In s.heap) (I : InstAt s.heap x ox C od) (hs : findIn K (.ref C) "__contains__" = some (some (.ref f))) (hf : isFn K (.ref f) = true)
    (h : wpAny M A (call (.ref f) [.ref x, v]) (fun r s' => ∃ c, r = .bool c ∧ Q (.bool c) s') E s) : wpAny M A (compareOp .In v (.ref x)) Q E s := by
  have k : wpAny M A (contains (.ref x) v) (fun c s' => Q (.bool c) s') E s := by
    unfold contains
    refine wpAny_holding (wpAny_bind (wpAny_bind (I.type.here ((looks_findIn X hs).here ?_))))
    rw [if_neg (show ¬ _ by simp)]
    refine wpAny_bind (unlessNone_K X I hs hf ?_)
    refine wpAny_mono h (fun r s' z => ?_) fun _ _ z => z
    obtain ⟨c, rfl, q⟩ := z
    exact wpAny_truthy_bool q
  exact wpAny_bind (wpAny_mono k (fun _ _ z => wpAny_pure z) fun _ _ z => z)
end
section
variable {X : Cx} {k : Nat} {f : Addr} {sp : Sp} {C : Two}
def rIn2 (K : PySem.W.Frag) (C : Two) (sp : Sp) : R2 := fun x y H Q => ∃ (a : Addr) (c : Bool) (dx : Addr) (fs : List (Str × V)), y = .ref a ∧ H a = some (.ins (C c) dx fs) ∧ sp [y, x] H (fun v H' => ∃ r, v = .bl r ∧ Q (.bl r) H') E0
theorem op_in2 (M : Met2 X.K C "__contains__" f) (F : At X k f sp) (hr : Room k X.A) : OpR X (compareOp .In) (rIn2 X.K C sp) := by
  intro pins s σ H x y v u Q I rx ry h
  obtain ⟨a, c, dx, fs, rfl, ha, q⟩ := h
  cases ry
  obtain ⟨mA, O, _⟩ := ins_get I.hok ha
  obtain ⟨od, J, _⟩ := O.look
  refine in_own I.kIn J (M.me c).at_ (M.me c).fn (wpAny_mono (run_at (vs := [.ref a, x]) F hr rfl I (.cons rfl (.cons rx .nil)) q) (fun w s' z => ?_) fun _ _ z => z)
  obtain ⟨v', H', I', rv, r, rfl, z⟩ := z
  cases rv
  exact ⟨r, rfl, .bl r, H', I', rfl, z⟩
theorem op_in2K {K : PySem.W.Frag} (hK : X.K = K) (M : Met2 X.K C "__contains__" f) (F : At X k f sp) (hr : Room k X.A) : OpR X (compareOp .In) (rIn2 K C sp) := hK ▸ op_in2 M F hr
open PySem.W in
/-- len of an object whose own __len__ tells n -/
theorem len_own {prog : Program} {w : World} {A : Around} {E : Value → Shared → Prop} {s : Shared} {K : PySem.W.Frag} {x D f : Addr} {ox : Obj} {od : Option Obj} {Q : Value → Shared → Prop} (X : K.In s.heap) (I : InstAt s.heap x ox D od) (hs : findIn K (.ref D) "__len__" = some (some (.ref f)))
    (hf : isFn K (.ref f) = true) (h : wpAny (model prog w) A.in1 (call (.ref f) [.ref x]) (fun v s' => ∃ n t, v = .int n t ∧ 0 ≤ n ∧ n < 2 ^ 63 ∧ Q (.int n s'.toks) { s' with toks := s'.toks + 1 }) E s) : wpAny (model prog w) A (call (.builtin "len") [.ref x]) Q E s := by
  refine Calls.call_function_entry kind_len plain_len entry_len (args_len1 _) (show wpAny _ _ (Builtin.«len» _) _ _ _ from ?_)
  unfold Builtin.«len»; refine wpAny_bind (m := oneArg "len" _) (wpAny_pure ?_)
  refine wpAny_bind (m := callSpecial? (.ref x) (Str.ofString "__len__")) (special_fn X I hs (beq_iff_eq.mp hf) (wpAny_mono h (fun r s' z => ?_) fun _ _ y => y))
  obtain ⟨n, t, rfl, h0, h1, q⟩ := z
  refine wpAny_bind (wpAny_holding (wpAny_pure (wpAny_bind (wpAny_letGo ?_))))
  show wpAny _ _ (if n < 0 then _ else _) _ _ _; rw [if_neg (Int.not_lt.mpr h0)]
  show wpAny _ _ (if n ≥ 2 ^ 63 then _ else _) _ _ _; rw [if_neg (Int.not_le.mpr h1)]
  exact wpAny_bind (wpAny_mkInt (wpAny_pure ⟨_, rfl, q⟩))
def rLen2 (C : Two) (sp : Sp) : List V → Hp → VK → Prop := fun xs H Q => ∃ (a : Addr) (c : Bool) (dx : Addr) (fs : List (Str × V)), xs = [.ref a] ∧ H a = some (.ins (C c) dx fs) ∧ sp [.ref a] H (fun v H' => ∃ n : Int, v = .int n ∧ 0 ≤ n ∧ n < 2 ^ 63 ∧ Q (.int n) H') E0
theorem call_len2 (M : Met2 X.K C "__len__" f) (F : At X k f sp) (hr : Room (k + 1) X.A) : CallR X (.builtin "len") (rLen2 C sp) := by
  intro pins s σ H xs us Q I r h
  obtain ⟨a, c, dx, fs, rfl, ha, q⟩ := h
  rw [Vals.ref1 r]
  obtain ⟨mA, O, _⟩ := ins_get I.hok ha
  obtain ⟨od, J, _⟩ := O.look
  refine len_own I.kIn J (M.me c).at_ (M.me c).fn (wpAny_mono (run_at (vs := [.ref a]) F hr.in1 rfl I (.cons rfl .nil) q) (fun w s' z => ?_) fun _ _ z => z)
  obtain ⟨v', H', I', rv, n, rfl, h0, h1, z⟩ := z
  obtain ⟨t, rfl⟩ := rv
  exact ⟨n, t, rfl, h0, h1, .int n, H', I'.tok _, ⟨_, rfl⟩, z⟩
/-! ### max(xs, default=d), whole numbers -/
def maxDf (d : Int) : List Int → Int
  | [] => d
  | y :: ys => ys.foldl max y
def rMaxDf (K : PySem.W.Frag) : List V → List V → Hp → VK → Prop := fun xs zs H Q => ∃ (a : Addr) (ns : List Int) (d : Int), xs = [.ref a] ∧ zs = [.int d] ∧ SqL K H a (ns.map V.int) ∧ Q (.int (maxDf d ns)) H
theorem reads_ints (h : Heap) : ∀ {ns : List Int} {us : List Value}, Vals (ns.map V.int) us → ∃ as, ReadsAll h us (ns.map PyData.int) as
  | [], _, .nil => ⟨_, .nil⟩
  | n :: ns, _, .cons r rs => by
    obtain ⟨as, k⟩ := reads_ints h rs
    obtain ⟨t, rfl⟩ := r
    exact ⟨_, .cons (.int n t) k⟩
theorem alike_ints (ns : List Int) : PySem.W.AlikeAll (ns.map PyData.int) := by
  refine ⟨fun x hx y hy => ?_, fun x hx => ?_⟩
  · obtain ⟨i, _, rfl⟩ := List.mem_map.mp hx
    obtain ⟨j, _, rfl⟩ := List.mem_map.mp hy
    rfl
  · obtain ⟨i, _, rfl⟩ := List.mem_map.mp hx
    exact fun e => nomatch e
theorem depth_ints : ∀ ns : List Int, PyData.depthAll (ns.map PyData.int) = 0
  | [] => by unfold PyData.depthAll; rfl
  | n :: ns => by
    show PyData.depthAll (.int n :: ns.map PyData.int) = 0
    unfold PyData.depthAll
    rw [depth_ints ns]
    unfold PyData.depth
    rfl
theorem cr_maxDf (hc : X.calm = true) (hu : X.A.units + 1 < cLine) : CallRK X (.builtin "max") ["default"] (rMaxDf X.K) := by
  intro pins s σ H xs zs us ws Q I r rz h
  obtain ⟨a, ns, d, rfl, rfl, hs, q⟩ := h
  obtain ⟨its, rv, hl, _⟩ := I.list hs
  rw [Vals.ref1 r]
  obtain ⟨u, rfl, t, rfl⟩ := rz.one
  obtain ⟨as, hr⟩ := reads_ints s.heap rv
  refine PySem.W.max_list_default (I.ok.hd hc) hl.isList (xs := ns.map PyData.int) (by simpa using hr) (alike_ints ns) (by rw [depth_ints]; omega) (fun e h' tk hk => ?_) fun y ys i v h' tk bs e hi rd hk => ?_
  · have e0 : ns = [] := List.map_eq_nil_iff.mp e
    subst e0
    exact ⟨.int d, H, I.kept hk, ⟨t, rfl⟩, q⟩
  · cases ns with
    | nil => cases e
    | cons n ns =>
      injection e with e1 e2
      subst e1 e2
      rw [PySem.W.maxD_ints] at rd
      cases rd with
      | int _ t' => exact ⟨.int _, H, I.kept hk, ⟨t', rfl⟩, q⟩
end
/-! ### an own class made by keywords alone -/
structure MakK (P : Program) (w : World) (K : PySem.W.Frag) (mg : Str → Option Value) (base : Heap) (k : Nat) (x : Str) (C : Addr) (ks : List Str) (gV : List V → List V → List V) (sp : Sp) : Prop where
  ex : ∃ (f : Addr) (fd : FuncData) (ps : List Str) (g : List Value → List Value → List Value), Mk K C f ∧ FnOk P w K mg base CX0 k f fd ps sp ∧ mg x = some (.ref C) ∧ KBn K fd ps 1 ks g gV
section
variable {X : Cx} {k j : Nat} {C : Addr} {x : Str} {ks : List Str} {gV : List V → List V → List V} {sp : Sp} {kws : List Keyword} {p pos : Pos} {tk : TA}
theorem pe_mkK (c : MakK X.prog X.w X.K X.mg X.base k x C ks gV sp) (hr : Room j X.A) (hk : k + 1 ≤ j) (hg : Gl X x) (hkw : PK X kws tk) (hall : (backToKw pos (keywordEach kws X.env)).all (·.1.isSome) = true := by rfl)
    (hks : (backToKw pos (keywordEach kws X.env)).filterMap (·.1) = ks := by rfl) (hdb : (x == ("__debug__" : Str)) = false := by decide)
    (hpl : ((backTo pos (starEach [] X.env)).any (·.1) || (backToKw pos (keywordEach kws X.env)).any (·.1.isNone)) = false := by rfl) : PE X (.Call (.Name x p) [] kws pos) (tMakeK C 0 ks.length sp gV E0 tNil tk) := by
  obtain ⟨f, fd, ps, g, M, F, hm, hb⟩ := c.ex
  exact pe_makeK0 M F (hr.mono hk) hg hm hb pass0 hkw hall hks hdb hpl
def g3 {α : Type} (g : α → α → α → α → List α) (us ws : List α) : List α := match us, ws with
  | [a], [b, c, d] => g a b c d
  | _, _ => []
/-- how three keywords bind behind self -/
theorem kbn3 {K : PySem.W.Frag} {x qual : Str} {params : Arguments} {body : List Stmt} {scope : Scope} {f : Addr} {fd : FuncData} {ps ks : List Str} (F : FunD K x qual params body scope [] [] f fd) (g : {α : Type} → α → α → α → α → List α)
    (hrel : ∀ {a b c d : V} {a' b' c' d' : Value}, RelV a a' → RelV b b' → RelV c c' → RelV d d' → Vals (g a b c d) (g a' b' c' d')) (hk : ks.length = 3)
    (h : ∀ (kV doc pm : Value) (an : Option Addr) (cdv ct a b c d : Value), bindArgs (PySem.W.fnOf x qual params body scope .none kV doc pm an cdv ct) ⟨[a], ks.zip [b, c, d]⟩ = pure (ps.zip (g a b c d))) :
    KBn K fd ps 1 ks (g3 g) (g3 g) := by
  obtain ⟨oc, od, dV, kV, doc, pm, an, cdv, ct, osl, rfl, lk, hcd, hD, hK⟩ := F.ex
  rcases hD with ⟨_, rfl⟩ | ⟨e, _⟩
  · refine ⟨fun s us ws X l1 l2 => ?_, fun r1 r2 => ?_⟩
    · rw [hk] at l2
      match us, ws, l1, l2 with
      | [a], [b, c, d], _, _ => exact .of_eq (h kV doc pm an cdv ct a b c d)
    · cases r1 with
      | nil => exact .nil
      | cons ra ras =>
        cases ras with
        | cons _ _ => exact .nil
        | nil =>
          cases r2 with
          | nil => exact .nil
          | cons rb r2 =>
            cases r2 with
            | nil => exact .nil
            | cons rc r2 =>
              cases r2 with
              | nil => exact .nil
              | cons rd r2 =>
                cases r2 with
                | nil => exact hrel ra rb rc rd
                | cons _ _ => exact .nil
  · exact absurd rfl e
end
end NbK

set_option Elab.async false
set_option linter.all false
set_option maxRecDepth 100000
set_option maxHeartbeats 4000000
/-! More that the package's defs promise; keywords; the greatest block. -/
namespace NbL
open PySem PySem.Spec PyProof.Rows L2 Nb NbE NbS NbF NbP NbK
theorem room65 {k : Nat} {A : Around} (r : Room k A) : A.units + 65 < cLine := by have := r.un; omega
theorem room1 {k : Nat} {A : Around} (r : Room k A) : A.units + 1 < cLine := by have := r.un; omega
theorem op_inDK {X : Cx} {K : PySem.W.Frag} (hK : X.K = K) (hu : X.A.units + 65 < cLine) : OpR X (compareOp .In) (rInD K) := hK ▸ op_inD hu
def sp_Log_contains (K : PySem.W.Frag) : Sp := fun vs H Q _ => ∃ p b z ns es x, vs = [.ref p, x] ∧ LogAt K H p b z ns es ∧ ((NotEn K H x ∧ Q (.bl false) H) ∨ ∃ (t : Addr) (e : En), x = .ref t ∧ H t = some (.tup [.str e.1, .int e.2]) ∧ Q (.bl (decide (e ∈ es))) H)
def topB (z : Int) (es : List En) : Int := maxDf (-1) (es.map fun e => e.2 / z)
def sp_Log_last_block (K : PySem.W.Frag) : Sp := fun vs H Q _ => ∃ p b z ns es, vs = [.ref p] ∧ LogAt K H p b z ns es ∧ ∀ H', Same H H' → Q (.int (topB z es)) H'
/-- an entry among entries -/
theorem in_ents {K : PySem.W.Frag} {H : Hp} {t s : Addr} {e : En} {es : List En} {ns : List Str} {Q : VK} (ht : H t = some (.tup [.str e.1, .int e.2])) (hs : EntsAt H s es) (hn : Crew ns) (he : enOk ns e = true) (hw : EnsOk ns es) (q : Q (.bl (decide (e ∈ es))) H) : rInD K (.ref t) (.ref s) H Q := by
  have h1 : SeqAt.shaped (enD e) = true := by
    have k := shaped_ens hn (es := [e]) ⟨by simp, fun x hx => by rw [List.mem_singleton.mp hx]; exact he⟩
    unfold SeqAt.shaped at k ⊢
    rw [Bool.and_eq_true] at k ⊢
    obtain ⟨k1, k2⟩ := k
    have k2 := of_decide_eq_true k2
    refine ⟨?_, decide_eq_true ?_⟩
    · have k1' : (PyData.canLay0 (enD e) && PyData.canLayAll0 []) = true := k1
      exact (Bool.and_eq_true_iff.mp k1').1
    · have dp : PyData.depth (enD e) = 1 := by simp [enD, PyData.depth, PyData.depthAll]
      rw [dp]
      decide
  refine ⟨enD e, es.map enD, .tup (SqT.of ht) (.cons (.str _) (.cons (.int _) .nil)), hs.dp, h1, shaped_ens hn hw, ?_⟩
  have e1 : ((es.map enD).any fun y => PyData.eqv y (enD e)) = decide (e ∈ es) := by
    rw [List.any_map, Bool.eq_iff_iff, List.any_eq_true, decide_eq_true_iff]
    have one : ∀ a : En, PyData.eqv (enD a) (enD e) = decide (a = e) := fun a => by
      have k := eqv_ens [a] [e]
      simpa [PyData.eqvAll] using k
    constructor
    · rintro ⟨a, h1, h2⟩
      have h3 : PyData.eqv (enD a) (enD e) = true := h2
      rw [one, decide_eq_true_iff] at h3
      exact h3 ▸ h1
    · intro h
      exact ⟨e, h, by show PyData.eqv (enD e) (enD e) = true; rw [one]; simp⟩
  rw [e1]
  exact q
theorem logx_put {K : PySem.W.Frag} {H : Hp} {p a ls le : Addr} {b : Bool} {z : Int} {ns : List Str} {es : List En} {xs : List V} {u : HO} (h : LogX K H p b z ns es ls le) (n1 : p ≠ a) (n2 : ls ≠ a) (n3 : le ≠ a) (ha : H a = some (.lst xs)) : LogX K (upd H a u) p b z ns es ls le := by
  obtain ⟨dx, h1, h2, ⟨ts, h3, h4⟩, h5⟩ := h
  exact ⟨dx, upd_keep h1 n1, upd_keep h2 n2, ⟨ts, upd_keep h3 n3, h4.imp fun t xs g => upd_keep g (ne_of g ha (by simp))⟩, h5⟩
theorem logx_same {K : PySem.W.Frag} {H H' : Hp} {p ls le : Addr} {b : Bool} {z : Int} {ns : List Str} {es : List En} (h : LogX K H p b z ns es ls le) (e : Same H H') : LogX K H' p b z ns es ls le := by
  obtain ⟨dx, h1, h2, h3, h5⟩ := h
  exact ⟨dx, e _ _ h1, h2.same e, h3.same e, h5⟩
theorem ne_new {H : Hp} {a l : Addr} {o : HO} (h : H a = none) (h' : H l = some o) : a ≠ l := by
  rintro rfl
  rw [h] at h'
  cases h'
/-! ### the greatest block -/
theorem foldl_max (y : Int) : ∀ (ys : List Int), (ys.foldl max y = y ∨ ys.foldl max y ∈ ys) ∧ y ≤ ys.foldl max y ∧ ∀ x ∈ ys, x ≤ ys.foldl max y
  | [] => ⟨.inl rfl, Int.le_refl _, fun _ h => nomatch h⟩
  | x :: ys => by
    obtain ⟨h1, h2, h3⟩ := foldl_max (max y x) ys
    show (ys.foldl max (max y x) = y ∨ ys.foldl max (max y x) ∈ x :: ys) ∧ y ≤ ys.foldl max (max y x) ∧ ∀ w ∈ x :: ys, w ≤ ys.foldl max (max y x)
    refine ⟨?_, by omega, fun w hw => ?_⟩
    · rcases h1 with h1 | h1
      · by_cases g : y ≤ x
        · exact .inr (by rw [h1, Int.max_eq_right g]; exact List.mem_cons_self ..)
        · exact .inl (by rw [h1, Int.max_eq_left (by omega)])
      · exact .inr (List.mem_cons_of_mem _ h1)
    · rcases List.mem_cons.mp hw with rfl | h
      · omega
      · exact h3 w h
theorem maxDf_spec {d m : Int} : ∀ {ys : List Int}, (∀ y ∈ ys, d ≤ y) → m ∈ d :: ys → (∀ y ∈ d :: ys, y ≤ m) → m = maxDf d ys
  | [], _, h, _ => List.mem_singleton.mp h
  | y :: ys, hd, h, hm => by
    obtain ⟨h1, h2, h3⟩ := foldl_max y ys
    show m = ys.foldl max y
    have g1 : ys.foldl max y ≤ m := by
      rcases h1 with e | e
      · rw [e]; exact hm y (by simp)
      · exact hm _ (by simp [e])
    have g2 : m ≤ ys.foldl max y := by
      rcases List.mem_cons.mp h with rfl | h
      · exact Int.le_trans (hd y (by simp)) h2
      · rcases List.mem_cons.mp h with rfl | h
        · exact h2
        · exact h3 m h
    omega
theorem topB_ge {z : Int} {ns : List Str} {es : List En} (hz : 1 ≤ z) (hw : EnsOk ns es) : ∀ y ∈ es.map (fun e => e.2 / z), (-1 : Int) ≤ y := fun y hy => by
  obtain ⟨e, he, rfl⟩ := List.mem_map.mp hy
  have k := hw.ok e he
  unfold enOk at k
  simp only [Bool.and_eq_true, decide_eq_true_eq] at k
  have := Int.ediv_nonneg k.2 (show 0 ≤ z by omega)
  omega
/-- [size, servers, entries, kind] as data -/
def logD4 (b : Bool) (z : Int) (ns : List Str) (es : List En) : PyData := .list [.int z, .list (ns.map PyData.str), .list (es.map enD), .str (kindS b)]
theorem shw_log4 {b : Bool} {z : Int} {ns : List Str} {es : List En} (hz : SizeOk z) (h : Crew ns) (g : EnsOk ns es) (hl : ∀ e ∈ es, e.2 < 10 ^ 60) : (logD4 b z ns es).showable = true ∧ (logD4 b z ns es).hasDict = false ∧ (logD4 b z ns es).depth ≤ 60 ∧ (logD4 b z ns es).shown.length ≤ sizeLine := by
  have k := shw_ens h g hl
  have k2 := shw_crew h
  have k1 : Shw 201 0 (.int z) := shw_int (by have := hz.1; omega) (by have := hz.2; omega)
  have k0 : Shw 8 0 (.str (kindS b)) := shw_name (by cases b <;> decide +kernel)
  have w : (logD4 b z ns es).weight ≤ 200000 := by
    unfold logD4
    have a := k.wt
    have b' := k2.wt
    have c := k1.wt
    have d := k0.wt
    simp only [PyData.weight, PyData.weightAll] at a b' c d ⊢
    omega
  have s : Shw (4 * (81000 + 1)) 3 (logD4 b z ns es) := shw_list (W := 81000) (D := 2) (n := 4) (fun d hd => by
    rcases List.mem_cons.mp hd with rfl | hd
    · exact k1.mono (by decide) (by decide)
    · rcases List.mem_cons.mp hd with rfl | hd
      · exact k2.mono (by decide) (by decide)
      · rcases List.mem_cons.mp hd with rfl | hd
        · exact k
        · cases List.mem_singleton.mp hd
          exact k0.mono (by decide) (by decide)) (Nat.le_refl _)
  exact ⟨s.sh, s.nd, Nat.le_trans s.dp (by decide), Shw.fits (⟨s.sh, s.nd, s.lv, w, s.dp⟩ : Shw 200000 3 _) (Nat.le_refl _)⟩
theorem mem_cut {xs : List V} {lo hi : Option Int} {v : V} (h : v ∈ cutV xs lo hi) : v ∈ xs := by
  unfold cutV at h
  exact List.mem_of_mem_drop (List.mem_of_mem_take h)
theorem len_cut (xs : List V) (lo hi : Option Int) : (cutV xs lo hi).length ≤ xs.length := by
  unfold cutV
  rw [List.length_take, List.length_drop]
  omega
/-- nothing that an entry can be: no tuple of a text and a whole number, or one of no name, or below 0 -/
def NotIn2 (K : PySem.W.Frag) (ns : List Str) (H : Hp) (v : V) : Prop := NotEn K H v ∨ ∃ (t : Addr) (e : En), v = .ref t ∧ H t = some (.tup [.str e.1, .int e.2]) ∧ enOk ns e = false
theorem knd_put {K : PySem.W.Frag} {H : Hp} {od : Addr} {vs ws : List V} {x : V} {d : Kd} (ho : H od = some (.lst vs)) (k : Knd K H x d) : Knd K (upd H od (.lst ws)) x d := by
  cases k with
  | non => exact .non
  | bl b => exact .bl b
  | int i => exact .int i
  | str x => exact .str x
  | @lst a xs h =>
    by_cases e : a = od
    · subst e
      exact .lst upd_same
    · exact .lst (upd_keep h e)
  | tup h => exact .tup (upd_keep h (ne_of h ho (by simp)))
  | dct h => exact .dct (upd_keep h (ne_of h ho (by simp)))
  | log h => exact .log (upd_keep h (ne_of h ho (by simp)))
theorem notIn_put {K : PySem.W.Frag} {ns : List Str} {H : Hp} {od : Addr} {vs ws : List V} {v : V} (ho : H od = some (.lst vs)) (k : NotIn2 K ns H v) : NotIn2 K ns (upd H od (.lst ws)) v := by
  rcases k with ⟨d, k, h⟩ | ⟨t, e, rfl, ht, he⟩
  · refine .inl ⟨d, knd_put ho k, ?_⟩
    rcases h with h | ⟨t, xs, rfl, ht, h⟩
    · exact .inl h
    · refine .inr ⟨t, xs, rfl, upd_keep ht (ne_of ht ho (by simp)), ?_⟩
      rcases h with h | ⟨v1, v2, d1, d2, e, k1, k2, h⟩
      · exact .inl h
      · exact .inr ⟨v1, v2, d1, d2, e, knd_put ho k1, knd_put ho k2, h⟩
  · exact .inr ⟨t, e, rfl, upd_keep ht (ne_of ht ho (by simp)), he⟩
theorem notIn_same {K : PySem.W.Frag} {ns : List Str} {H H' : Hp} {v : V} (e : Same H H') (k : NotIn2 K ns H v) : NotIn2 K ns H' v := by
  rcases k with ⟨d, k, h⟩ | ⟨t, en, rfl, ht, he⟩
  · refine .inl ⟨d, k.same e, ?_⟩
    rcases h with h | ⟨t, xs, rfl, ht, h⟩
    · exact .inl h
    · refine .inr ⟨t, xs, rfl, e _ _ ht, ?_⟩
      rcases h with h | ⟨v1, v2, d1, d2, e', k1, k2, h⟩
      · exact .inl h
      · exact .inr ⟨v1, v2, d1, d2, e', k1.same e, k2.same e, h⟩
  · exact .inr ⟨t, en, rfl, e _ _ ht, he⟩
theorem notIn_len {K : PySem.W.Frag} {ns : List Str} {H : Hp} {t : Addr} {xs : List V} (h : H t = some (.tup xs)) (n : xs.length ≠ 2) : NotIn2 K ns H (.ref t) := .inl ⟨_, .tup h, .inr ⟨t, xs, rfl, h, .inl n⟩⟩
theorem notIn_two {K : PySem.W.Frag} {ns : List Str} {H : Hp} {t : Addr} {v1 v2 : V} {d1 d2 : Kd} (h : H t = some (.tup [v1, v2])) (k1 : Knd K H v1 d1) (k2 : Knd K H v2 d2) (n : d1 ≠ .str ∨ d2 ≠ .int) : NotIn2 K ns H (.ref t) := .inl ⟨_, .tup h, .inr ⟨t, _, rfl, h, .inr ⟨v1, v2, d1, d2, rfl, k1, k2, n⟩⟩⟩
theorem notIn_kd {K : PySem.W.Frag} {ns : List Str} {H : Hp} {v : V} {d : Kd} (k : Knd K H v d) (n : d ≠ .tup) : NotIn2 K ns H v := .inl ⟨d, k, .inl n⟩
theorem in_no {K : PySem.W.Frag} {H : Hp} {p : Addr} {v : V} {b : Bool} {z : Int} {ns : List Str} {es : List En} {Q : VK} (h : LogAt K H p b z ns es) (k : NotIn2 K ns H v) (q : Q (.bl false) H) : rIn2 K (C2 K) (sp_Log_contains K) v (.ref p) H Q := by
  obtain ⟨dx, ls, le, h1, _, _, hw⟩ := id h
  refine ⟨p, b, dx, _, rfl, h1, p, b, z, ns, es, v, rfl, h, ?_⟩
  rcases k with k | ⟨t, e, rfl, ht, he⟩
  · exact .inl ⟨k, _, rfl, q⟩
  · refine .inr ⟨t, e, rfl, ht, _, rfl, ?_⟩
    rw [decide_eq_false (fun g => by rw [hw.en.ok e g] at he; cases he)]
    exact q
theorem in_yes {K : PySem.W.Frag} {H : Hp} {p t : Addr} {b : Bool} {z : Int} {ns : List Str} {es : List En} {e : En} {Q : VK} (h : LogAt K H p b z ns es) (ht : H t = some (.tup [.str e.1, .int e.2])) (q : Q (.bl (decide (e ∈ es))) H) : rIn2 K (C2 K) (sp_Log_contains K) (.ref t) (.ref p) H Q := by
  obtain ⟨dx, ls, le, h1, _⟩ := id h
  exact ⟨p, b, dx, _, rfl, h1, p, b, z, ns, es, .ref t, rfl, h, .inr ⟨t, e, rfl, ht, _, rfl, q⟩⟩
end NbL

set_option Elab.async false
set_option linter.all false
set_option maxRecDepth 100000
set_option maxHeartbeats 4000000
/-! a + b by an own __add__; defs that raise. -/
namespace NbX
open PySem PySem.Spec PyProof.Rows L2 NbE
section
variable {prog : Program} {w : World} {A : Around} {E : Value → Shared → Prop} {s : Shared} {K : PySem.W.Frag} {x C f : Addr} {ox : Obj} {od : Option Obj} {b : Value}
open PySem.W in
/-- both sides of one class: its own method answers -/
theorem bin_own {op : Operator} {Q : Value → Shared → Prop} (X : K.In s.heap) (I : InstAt s.heap x ox C od) (hb : Looks (model prog w) s.heap (typeOf b) (.ref C)) (hc : selfFirst K C = true) (hs : findIn K (.ref C) (PySem.dunder op.info.2) = some (some (.ref f)))
    (hf : isFn K (.ref f) = true) (h : wpAny (model prog w) A (call (.ref f) [.ref x, b]) (fun v s' => v ≠ .notImplemented ∧ Q v s') E s) : wpAny (model prog w) A (binaryOp op (.ref x) b) Q E s := by
  obtain ⟨cd, hcd, hm⟩ := any_some hc
  have hr : ∃ rest, cd.mro = .ref C :: rest := by
    cases q : cd.mro with
    | nil => rw [q] at hm; cases hm
    | cons a r =>
      rw [q] at hm
      exact ⟨r, congrArg (· :: r) (Option.some.inj (beq_iff_eq.mp hm))⟩
  obtain ⟨rest, hr⟩ := hr
  unfold binaryOp; refine wpAny_holding (wpAny_bind ?_); unfold binaryOp1
  refine wpAny_bind (I.type.here (wpAny_bind (hb.here (wpAny_bind ((fills_K X hcd hr hs).here ?_))))); simp only [beq_self_eq_true, if_true]
  refine wpAny_bind (wpAny_pure ?_); simp only [Bool.and_false, Bool.false_eq_true, if_false, Bool.false_and]
  refine wpAny_bind (wpAny_pure ?_); simp only [Bool.false_eq_true, if_false]
  refine wpAny_bind (m := tryMethod (.ref x) _ b) ?_; unfold tryMethod
  refine wpAny_bind (special_fn X I hs (beq_iff_eq.mp hf) (wpAny_mono h (fun v s' z => ?_) fun _ _ e => e)); obtain ⟨n, q⟩ := z
  cases v <;> first | exact absurd rfl n | exact wpAny_pure (wpAny_pure (wpAny_pure q))
end
section
variable {X : Cx} {k j : Nat} {f : Addr} {sp : Sp} {C : Two} {W : WX} {a b : Expr} {ta tb : TE} {pos : Pos}
/-- a + b, both of one of the two classes -/
def rAdd2 (C : Two) (sp : Sp) (E : XK) : R2 := fun x y H Q => ∃ (a b : Addr) (c : Bool) (dx dy : Addr) (fs gs : List (Str × V)), x = .ref a ∧ y = .ref b ∧ H a = some (.ins (C c) dx fs) ∧ H b = some (.ins (C c) dy gs) ∧ sp [x, y] H (fun v H' => ∃ p, v = .ref p ∧ Q v H') E
structure Add2 (K : PySem.W.Frag) (C : Two) (f : Addr) : Prop where
  me : Met2 K C "__add__" f
  first : ∀ c, PySem.W.selfFirst K (C c) = true
theorem op_add2 (M : Add2 X.K C f) (F : At X k f sp) (hr : Room k X.A) : OpR X (binaryOp .Add) (rAdd2 C sp E0) := by
  intro pins s σ H x y v u Q I rx ry h
  obtain ⟨a, b, c, dx, dy, fs, gs, rfl, rfl, ha, hb, q⟩ := h
  cases rx
  cases ry
  obtain ⟨mA, O, _⟩ := ins_get I.hok ha
  obtain ⟨od, J, _⟩ := O.look
  obtain ⟨mB, O', _⟩ := ins_get I.hok hb
  obtain ⟨od', J', _⟩ := O'.look
  refine bin_own I.kIn J J'.type (M.first c) (M.me.me c).at_ (M.me.me c).fn (wpAny_mono (run_at (vs := [.ref a, .ref b]) F hr rfl I (.cons rfl (.cons rfl .nil)) q) (fun w s' z => ?_) fun _ _ z => z)
  obtain ⟨v', H', I', rv, p, rfl, z⟩ := z
  cases rv
  exact ⟨(fun e => nomatch e), .ref p, H', I', rfl, z⟩
/-- a def that may raise, by its address -/
structure CalX (P : Program) (w : World) (K : PySem.W.Frag) (mg : Str → Option Value) (base : Heap) (k : Nat) (f : Addr) (sp : Sp) : Prop where
  ex : ∃ (fd : FuncData) (ps : List Str), FnOk P w K mg base (L2.CX P w) k f fd ps sp ∧ PySem.W.keepIn K (.ref f) = true ∧ Binds K fd ps []
def tAdd2S (C : Two) (sp : Sp) (W : WX) (ta tb : TE) : TE := fun σ H Q => tOp (rAdd2 C sp (WE W σ)) ta tb σ H Q
theorem pe_add2S (M : Add2 X.K C f) (c : CalX X.prog X.w X.K X.mg X.base k f sp) (hr : Room j X.A) (hk : k ≤ j) (tk : Takes X W) (ha : PE X a ta) (hb : PE X b tb) : PE X (.BinOp a .Add b pos) (tAdd2S C sp W ta tb) := by
  obtain ⟨fd, ps, F, kp, bi⟩ := c.ex
  refine ⟨fun pins s σ H Q I h => wpAny_BinOp (binT ha hb I h fun v u s2 x y H2 I2 rx ry q => ?_)⟩
  obtain ⟨a, b, c, dx, dy, fs, gs, rfl, rfl, ha, hb, q⟩ := q
  cases rx
  cases ry
  obtain ⟨mA, O, _⟩ := ins_get I2.hok ha
  obtain ⟨od, J, _⟩ := O.look
  obtain ⟨mB, O', _⟩ := ins_get I2.hok hb
  obtain ⟨od', J', _⟩ := O'.look
  refine bin_own I2.kIn J J'.type (M.first c) (M.me.me c).at_ (M.me.me c).fn (wpAny_mono (run_fnS (vs := [.ref a, .ref b]) F (hr.mono hk) bi (passAt tk σ) I2 (.cons rfl (.cons rfl .nil)) q) (fun w s' z => ?_) fun _ _ z => z)
  obtain ⟨v', H', I', rv, p, rfl, z⟩ := z
  cases rv
  exact ⟨(fun e => nomatch e), .ref p, H', I', rfl, z⟩
def tMeth2S (C : Two) (m : Str) (sp : Sp) (W : WX) (ta : TE) (t : TA) : TE := fun σ H Q => ta σ H fun x H1 => ∃ (a : Addr) (c : Bool) (dx : Addr) (fs : List (Str × V)), x = .ref a ∧ H1 a = some (.ins (C c) dx fs) ∧ fs.lookup m = none ∧ t σ H1 fun vs H2 => sp (x :: vs) H2 Q (WE W σ)
theorem pe_mt2S {m : Str} {o e : Expr} {es : List Expr} {t : TA} {apos : Pos} {pl : Sem Bool} (M : Met2 X.K C m f) (c : CalX X.prog X.w X.K X.mg X.base k f sp) (hr : Room j X.A) (hk : k ≤ j) (tk : Takes X W) (he : PE X o ta) (ha : PA X (e :: es) t) (hst : starEach (e :: es) X.env = (false, eval e X.env) :: starEach es X.env := by rfl)
    (hpl : (backTo pos (starEach es X.env)).any (·.1) = false := by rfl)
    (ht : eval (.Call (.Attribute o m apos) (e :: es) [] pos) X.env = (do
      let ov ← eval o X.env
      standAt apos.atName
      let (f, first) ← holding [ov] (getMethod ov m pl)
      callWith pos f first (backTo pos (starEach (e :: es) X.env)) (backToKw pos (keywordEach [] X.env))) := by rfl) : PE X (.Call (.Attribute o m apos) (e :: es) [] pos) (tMeth2S C m sp W ta t) := by
  obtain ⟨fd, ps, F, kp, bi⟩ := c.ex
  refine ⟨fun pins s σ H Q I h => PySem.W.methodCall_KW (pl := pl) (thn (he.run pins s σ H _ I h) fun u s1 z => ?_) ht⟩
  obtain ⟨x, H1, I1, rx, a, c, dx, fs, rfl, ea, l, q⟩ := z
  cases rx
  refine getmeth_ok I1 ea (M.cl c) (M.me c) l (PySem.W.callWith_K (first := [.ref a]) (h₀ := X.base) I1.ok.mod.kin (M.me c).kp (thn (ha.run pos pins s1 σ H1 _ I1 q) fun us s2 z => ?_) hst hpl)
  obtain ⟨vs, H2, I2, r, q2⟩ := z
  exact ⟨I2.kIn, run_fnS (vs := .ref a :: vs) F (hr.mono hk) bi (passAt tk σ) I2 (.cons rfl r) q2⟩
end
/-! ### a method called by keywords alone -/
structure CalK (P : Program) (w : World) (K : PySem.W.Frag) (mg : Str → Option Value) (base : Heap) (k : Nat) (f : Addr) (ks : List Str) (gV : List V → List V → List V) (sp : Sp) : Prop where
  ex : ∃ (fd : FuncData) (ps : List Str) (g : List Value → List Value → List Value), FnOk P w K mg base CX0 k f fd ps sp ∧ PySem.W.keepIn K (.ref f) = true ∧ KBn K fd ps 1 ks g gV
section
variable {X : Cx} {k j : Nat} {f : Addr} {sp : Sp} {C : Two} {ks : List Str} {gV : List V → List V → List V} {m : Str} {o : Expr} {ta : TE} {tk : TA} {kws : List Keyword} {apos pos : Pos} {pl : Sem Bool}
def tMeth2K (C : Two) (m : Str) (n : Nat) (sp : Sp) (gV : List V → List V → List V) (ta : TE) (tk : TA) : TE := fun σ H Q => ta σ H fun x H1 => ∃ (a : Addr) (c : Bool) (dx : Addr) (fs : List (Str × V)), x = .ref a ∧ H1 a = some (.ins (C c) dx fs) ∧ fs.lookup m = none ∧
  tk σ H1 fun zs H2 => zs.length = n ∧ sp (gV [x] zs) H2 Q E0
theorem pe_mt2K (M : Met2 X.K C m f) (c : CalK X.prog X.w X.K X.mg X.base k f ks gV sp) (hr : Room j X.A) (hk : k ≤ j) (he : PE X o ta) (hkw : PK X kws tk) (hall : (backToKw pos (keywordEach kws X.env)).all (·.1.isSome) = true := by rfl)
    (hks : (backToKw pos (keywordEach kws X.env)).filterMap (·.1) = ks := by rfl) (hpl : ((backTo pos (starEach [] X.env)).any (·.1) || (backToKw pos (keywordEach kws X.env)).any (·.1.isNone)) = false := by rfl)
    (ht : eval (.Call (.Attribute o m apos) [] kws pos) X.env = (do
      let ov ← eval o X.env
      standAt apos.atName
      let (f, first) ← holding [ov] (getMethod ov m pl)
      callWith pos f first (backTo pos (starEach [] X.env)) (backToKw pos (keywordEach kws X.env))) := by rfl) : PE X (.Call (.Attribute o m apos) [] kws pos) (tMeth2K C m ks.length sp gV ta tk) := by
  obtain ⟨fd, ps, g, F, kp, hb⟩ := c.ex
  refine ⟨fun pins s σ H Q I h => PySem.W.methodCall_KW (pl := pl) (thn (he.run pins s σ H _ I h) fun u s1 z => ?_) ht⟩
  obtain ⟨x, H1, I1, rx, a, c, dx, fs, rfl, ea, l, q⟩ := z
  cases rx
  refine getmeth_ok I1 ea (M.cl c) (M.me c) l (PySem.W.callWith_KW0 (first := [.ref a]) (h₀ := X.base) I1.ok.mod.kin (M.me c).kp hall ?_ hpl)
  refine thn (hkw.run pos pins s1 σ H1 _ I1 q) fun ws s2 z => ?_
  obtain ⟨zs, H2, I2, rz, l2, q2⟩ := z
  refine ⟨I2.kIn, ?_⟩
  rw [hks, List.append_nil]
  have ra : Vals [V.ref a] [Value.ref a] := .cons rfl .nil
  refine wpAny_call (codeAny_mono (F.run X.A X.stack s2 H2 ⟨[.ref a], ks.zip ws⟩ (g [.ref a] ws) (gV [.ref a] zs) Q E0 (hr.mono hk) I2.env0 (hb.to s2 [.ref a] ws I2.kIn rfl (by rw [← rz.length]; exact l2)) (hb.rel ra rz) q2) fun r s' hq => ?_)
  cases r with
  | error e => exact hq.elim
  | ok fl => cases fl with
    | ret u => exact I2.after hq
    | _ => exact hq.elim
def g1 {α : Type} (g : α → α → List α) (us ws : List α) : List α := match us, ws with
  | [a], [b] => g a b
  | _, _ => []
def g2 {α : Type} (g : α → α → α → List α) (us ws : List α) : List α := match us, ws with
  | [a], [b, c] => g a b c
  | _, _ => []
theorem kbn1 {K : PySem.W.Frag} {x qual : Str} {params : Arguments} {body : List Stmt} {scope : Scope} {f : Addr} {fd : FuncData} {ps ks : List Str} (F : FunD K x qual params body scope [] [] f fd) (g : {α : Type} → α → α → List α)
    (hrel : ∀ {a b : V} {a' b' : Value}, RelV a a' → RelV b b' → Vals (g a b) (g a' b')) (hk : ks.length = 1)
    (h : ∀ (kV doc pm : Value) (an : Option Addr) (cdv ct a b : Value), bindArgs (PySem.W.fnOf x qual params body scope .none kV doc pm an cdv ct) ⟨[a], ks.zip [b]⟩ = pure (ps.zip (g a b))) : KBn K fd ps 1 ks (g1 g) (g1 g) := by
  obtain ⟨oc, od, dV, kV, doc, pm, an, cdv, ct, osl, rfl, lk, hcd, hD, hK⟩ := F.ex
  rcases hD with ⟨_, rfl⟩ | ⟨e, _⟩
  · refine ⟨fun s us ws X l1 l2 => ?_, fun r1 r2 => ?_⟩
    · rw [hk] at l2
      match us, ws, l1, l2 with
      | [a], [b], _, _ => exact .of_eq (h kV doc pm an cdv ct a b)
    · cases r1 with
      | nil => exact .nil
      | cons ra ras =>
        cases ras with
        | cons _ _ => exact .nil
        | nil =>
          cases r2 with
          | nil => exact .nil
          | cons rb r2 =>
            cases r2 with
            | nil => exact hrel ra rb
            | cons _ _ => exact .nil
  · exact absurd rfl e
theorem kbn2 {K : PySem.W.Frag} {x qual : Str} {params : Arguments} {body : List Stmt} {scope : Scope} {f : Addr} {fd : FuncData} {ps ks : List Str} (F : FunD K x qual params body scope [] [] f fd) (g : {α : Type} → α → α → α → List α)
    (hrel : ∀ {a b c : V} {a' b' c' : Value}, RelV a a' → RelV b b' → RelV c c' → Vals (g a b c) (g a' b' c')) (hk : ks.length = 2)
    (h : ∀ (kV doc pm : Value) (an : Option Addr) (cdv ct a b c : Value), bindArgs (PySem.W.fnOf x qual params body scope .none kV doc pm an cdv ct) ⟨[a], ks.zip [b, c]⟩ = pure (ps.zip (g a b c))) : KBn K fd ps 1 ks (g2 g) (g2 g) := by
  obtain ⟨oc, od, dV, kV, doc, pm, an, cdv, ct, osl, rfl, lk, hcd, hD, hK⟩ := F.ex
  rcases hD with ⟨_, rfl⟩ | ⟨e, _⟩
  · refine ⟨fun s us ws X l1 l2 => ?_, fun r1 r2 => ?_⟩
    · rw [hk] at l2
      match us, ws, l1, l2 with
      | [a], [b, c], _, _ => exact .of_eq (h kV doc pm an cdv ct a b c)
    · cases r1 with
      | nil => exact .nil
      | cons ra ras =>
        cases ras with
        | cons _ _ => exact .nil
        | nil =>
          cases r2 with
          | nil => exact .nil
          | cons rb r2 =>
            cases r2 with
            | nil => exact .nil
            | cons rc r2 =>
              cases r2 with
              | nil => exact hrel ra rb rc
              | cons _ _ => exact .nil
  · exact absurd rfl e
end
/-! ### exception classes -/
structure ExcF (K : PySem.W.Frag) (mg : Str → Option Value) (x : Str) : Prop where
  ex : PySem.W.excIn K (He.ga K x) [.type "ValueError", .type "Exception", .type "BaseException", .type "object"] "ValueError.__new__" = true
  kp : PySem.W.keepIn K (.ref (He.ga K x)) = true
  sb : PySem.W.subIn K (.ref (He.ga K x)) (.type "BaseException") = some true
  ty : PySem.W.typeIn K (.ref (He.ga K x)) = some (.type "type")
  gl : mg x = some (.ref (He.ga K x))
  me : PySem.W.exmOne K (.ref (He.ga K x)) (.ref (He.ga K x)) = some true
/-! ### what raises -/
open NbS NbL in
def sp_Log_add (K : PySem.W.Frag) : Sp := fun vs H Q _ => ∃ p b z ns es p' es', vs = [.ref p, .ref p'] ∧ LogAt K H p b z ns es ∧ LogAt K H p' b z ns es' ∧ es.length + es'.length ≤ 200 ∧ NewLog K H Q b z ns (es ++ es')
open NbS NbL in
/-- too many entries together: InvalidLog -/
def spx_Log_add (K : PySem.W.Frag) : Sp := fun vs H _ E => ∃ p b z ns es p' es', vs = [.ref p, .ref p'] ∧ LogAt K H p b z ns es ∧ LogAt K H p' b z ns es' ∧ 200 < es.length + es'.length ∧ ∀ H', Same H H' → E (.ref (He.ga K "InvalidLog")) none H'
open NbS NbL in
def spx_Log_with_entry (K : PySem.W.Frag) : Sp := fun vs H _ E => ∃ p b z ns es, ∃ e : En, vs = [.ref p, .str e.1, .int e.2] ∧ LogAt K H p b z ns es ∧ enOk ns e = true ∧ 200 ≤ es.length ∧ ∀ H', Same H H' → E (.ref (He.ga K "InvalidLog")) none H'
open NbS NbL NbP
/-- [kind, size, servers, entries, how many] as data -/
def logD5 (b : Bool) (z : Int) (ns : List Str) (es : List En) : PyData := .list [.str (kindS b), .int z, .list (ns.map PyData.str), .list (es.map enD), .int (es.length : Int)]
theorem shw_log5 {b : Bool} {z : Int} {ns : List Str} {es : List En} (hz : SizeOk z) (h : Crew ns) (g : EnsOk ns es) (hl : ∀ e ∈ es, e.2 < 10 ^ 60) : (logD5 b z ns es).showable = true ∧ (logD5 b z ns es).hasDict = false ∧ (logD5 b z ns es).depth ≤ 60 ∧ (logD5 b z ns es).shown.length ≤ sizeLine := by
  have k := shw_ens h g hl
  have k2 := shw_crew h
  have k1 : Shw 201 0 (.int z) := shw_int (by have := hz.1; omega) (by have := hz.2; omega)
  have k0 : Shw 8 0 (.str (kindS b)) := shw_name (by cases b <;> decide +kernel)
  have k5 : Shw 201 0 (.int (es.length : Int)) := shw_int (by omega) (by have := g.few; omega)
  have w : (logD5 b z ns es).weight ≤ 200000 := by
    unfold logD5
    have a := k.wt
    have b' := k2.wt
    have c := k1.wt
    have d := k0.wt
    have e := k5.wt
    simp only [PyData.weight, PyData.weightAll] at a b' c d e ⊢
    omega
  have s : Shw (5 * (81000 + 1)) 3 (logD5 b z ns es) := shw_list (W := 81000) (D := 2) (n := 5) (fun d hd => by
    rcases List.mem_cons.mp hd with rfl | hd
    · exact k0.mono (by decide) (by decide)
    · rcases List.mem_cons.mp hd with rfl | hd
      · exact k1.mono (by decide) (by decide)
      · rcases List.mem_cons.mp hd with rfl | hd
        · exact k2.mono (by decide) (by decide)
        · rcases List.mem_cons.mp hd with rfl | hd
          · exact k
          · cases List.mem_singleton.mp hd
            exact k5.mono (by decide) (by decide)) (Nat.le_refl _)
  exact ⟨s.sh, s.nd, Nat.le_trans s.dp (by decide), Shw.fits (⟨s.sh, s.nd, s.lv, w, s.dp⟩ : Shw 200000 3 _) (Nat.le_refl _)⟩
theorem add_logs {K : PySem.W.Frag} {H : Hp} {p p' : Addr} {b : Bool} {z : Int} {ns : List Str} {es es' : List En} {Q : VK} (h : LogAt K H p b z ns es) (h' : LogAt K H p' b z ns es') (hl : es.length + es'.length ≤ 200)
    (q : NewLog K H Q b z ns (es ++ es')) : rAdd2 (C2 K) (sp_Log_add K) E0 (.ref p) (.ref p') H Q := by
  obtain ⟨dx, ls, le, h1, _⟩ := id h
  obtain ⟨dx', ls', le', h1', _⟩ := id h'
  exact ⟨p, p', b, dx, dx', _, _, rfl, rfl, h1, h1', p, b, z, ns, es, p', es', rfl, h, h', hl, fun w H' hw e hl' => ⟨w, rfl, q w H' hw e hl'⟩⟩
theorem wf_sub {z : Int} {ns : List Str} {es fs : List En} (h : WF z ns es) (hl : fs.length ≤ 200) (hm : ∀ e ∈ fs, e ∈ es) : WF z ns fs := ⟨h.sz, h.cr, ⟨hl, fun e he => h.en.ok e (hm e he)⟩⟩
open NbF
/-! ### pieces of a list of entries -/
theorem sl_to {K : PySem.W.Frag} {H : Hp} {s : Addr} {es : List En} {k : Nat} {Q : VK} (h : EntsAt H s es) (q : ∀ l H', H l = none → Same H H' → EntsAt H' l (es.take k) → Q (.ref l) H') : rSlL K (.ref s) none (some (k : Int)) H Q := by
  obtain ⟨ts, h1, h2⟩ := h
  refine ⟨s, _, rfl, SqL.of h1, fun p hp => ?_⟩
  have e := Nb.Same.new (o := .lst (cutV (ts.map V.ref) none (some (k : Int)))) (Same.refl H) hp
  exact q p _ hp e ⟨ts.take k, by rw [upd_same, cut_to', List.map_take], (h2.take k).imp fun t xs g => e _ _ g⟩
theorem sl_from {K : PySem.W.Frag} {H : Hp} {s : Addr} {es : List En} {k : Nat} {Q : VK} (h : EntsAt H s es) (q : ∀ l H', H l = none → Same H H' → EntsAt H' l (es.drop k) → Q (.ref l) H') : rSlL K (.ref s) (some (k : Int)) none H Q := by
  obtain ⟨ts, h1, h2⟩ := h
  refine ⟨s, _, rfl, SqL.of h1, fun p hp => ?_⟩
  have e := Nb.Same.new (o := .lst (cutV (ts.map V.ref) (some (k : Int)) none)) (Same.refl H) hp
  exact q p _ hp e ⟨ts.drop k, by rw [upd_same, cut_from, List.map_drop], (h2.drop k).imp fun t xs g => e _ _ g⟩
theorem cut_both (xs : List V) (a b : Nat) : cutV xs (some (a : Int)) (some ((a : Int) + (b : Int))) = (xs.drop a).take b := by
  have e : (a : Int) + (b : Int) = ((a + b : Nat) : Int) := by omega
  rw [e]
  unfold cutV
  rw [HT.sIx_nat, HT.sIx_nat]
  by_cases h : a ≤ xs.length
  · rw [Nat.min_eq_left h]
    by_cases g : a + b ≤ xs.length
    · rw [Nat.min_eq_left g, Nat.add_sub_cancel_left]
    · rw [Nat.min_eq_right (by omega), List.take_of_length_le (by rw [List.length_drop]; exact Nat.le_refl _), List.take_of_length_le (by rw [List.length_drop]; omega)]
  · rw [List.drop_of_length_le (show xs.length ≤ min a xs.length by omega), List.drop_of_length_le (show xs.length ≤ a by omega), List.take_nil, List.take_nil]
theorem sl_both {K : PySem.W.Frag} {H : Hp} {s : Addr} {es : List En} {k n : Nat} {Q : VK} (h : EntsAt H s es) (q : ∀ l H', H l = none → Same H H' → EntsAt H' l ((es.drop k).take n) → Q (.ref l) H') : rSlL K (.ref s) (some (k : Int)) (some ((k : Int) + (n : Int))) H Q := by
  obtain ⟨ts, h1, h2⟩ := h
  refine ⟨s, _, rfl, SqL.of h1, fun p hp => ?_⟩
  have e := Nb.Same.new (o := .lst (cutV (ts.map V.ref) (some (k : Int)) (some ((k : Int) + (n : Int))))) (Same.refl H) hp
  exact q p _ hp e ⟨(ts.drop k).take n, by rw [upd_same, cut_both, ← List.map_drop, ← List.map_take], ((h2.drop k).take n).imp fun t xs g => e _ _ g⟩
theorem cat_ents {H : Hp} {l l2 : Addr} {es fs : List En} {Q : VK} (h : EntsAt H l es) (h' : EntsAt H l2 fs) (hl : es.length + fs.length ≤ 100000) (q : ∀ r H', H r = none → Same H H' → EntsAt H' r (es ++ fs) → Q (.ref r) H') : rCat (.ref l) (.ref l2) H Q := by
  obtain ⟨ts, h1, h2⟩ := h
  obtain ⟨us, h3, h4⟩ := h'
  refine ⟨l, l2, _, _, rfl, rfl, h1, h3, sz_le (by rw [List.length_map, List.length_map, h2.len, h4.len]; exact hl), fun r hr => ?_⟩
  have e := Nb.Same.new (o := .lst (ts.map V.ref ++ us.map V.ref)) (Same.refl H) hr
  exact q r _ hr e ⟨ts ++ us, by rw [upd_same, List.map_append], (Ents.cat h2 h4).imp fun t xs g => e _ _ g⟩
/-! ### one entry many times -/
def RN (n : Nat) : List En := List.replicate n ("a", 7)
theorem ents_rep {H : Hp} {t : Addr} {e : En} (ht : H t = some (.tup [.str e.1, .int e.2])) : ∀ n, Ents H (List.replicate n t) (List.replicate n e)
  | 0 => trivial
  | n + 1 => ⟨ht, ents_rep ht n⟩
theorem rn_ok {n : Nat} (h : n ≤ 200) : WF 5 [("a" : Str)] (RN n) := ⟨⟨by decide, by decide +kernel⟩, wf_a.cr, ⟨by unfold RN; rw [List.length_replicate]; exact h, fun e he => by
  rw [(List.mem_replicate.mp he).2]
  decide +kernel⟩⟩
theorem rn_take (n k : Nat) (h : k ≤ n) : (RN n).take k = RN k := by
  unfold RN
  rw [List.take_replicate, Nat.min_eq_left h]
theorem rn_len (n : Nat) : (RN n).length = n := List.length_replicate
theorem flat_one (n : Nat) (t : Addr) : (List.replicate n [V.ref t]).flatten = (List.replicate n t).map V.ref := by
  induction n with
  | zero => rfl
  | succ n ih =>
    rw [List.replicate_succ, List.flatten_cons, ih, List.replicate_succ, List.map_cons]
    rfl
end NbX

set_option Elab.async false
set_option linter.all false
set_option maxRecDepth 100000
set_option maxHeartbeats 4000000
/-! What a Sight holds; windows. -/
namespace NbW
open PySem PySem.Spec PyProof.Rows L2 Nb NbE NbS NbF NbP NbK NbL NbX
/-- the servers of the entries of a block, in their sequence -/
def hold (z : Int) (es : List En) (q : Int) : List Str := (es.filter fun e => decide (e.2 / z = q)).map (·.1)
/-- the places and blocks of a server's entries, counted from k -/
def plc (z : Int) (n : Str) : Nat → List En → List (Int × Int)
  | _, [] => []
  | k, e :: es => if e.1 = n then ((k : Int), e.2 / z) :: plc z n (k + 1) es else plc z n (k + 1) es
/-- tuples of two whole numbers -/
def Prs (H : Hp) : List Addr → List (Int × Int) → Prop
  | [], [] => True
  | t :: ts, e :: es => H t = some (.tup [.int e.1, .int e.2]) ∧ Prs H ts es
  | _, _ => False
theorem Prs.imp {H H' : Hp} (k : ∀ t xs, H t = some (.tup xs) → H' t = some (.tup xs)) : ∀ {ts : List Addr} {es : List (Int × Int)}, Prs H ts es → Prs H' ts es
  | [], [], _ => trivial
  | _ :: _, _ :: _, h => ⟨k _ _ h.1, Prs.imp k h.2⟩
  | [], _ :: _, h => h.elim
  | _ :: _, [], h => h.elim
theorem Prs.app {H : Hp} {t : Addr} {e : Int × Int} (ht : H t = some (.tup [.int e.1, .int e.2])) : ∀ {ts : List Addr} {es : List (Int × Int)}, Prs H ts es → Prs H (ts ++ [t]) (es ++ [e])
  | [], [], _ => ⟨ht, trivial⟩
  | _ :: _, _ :: _, h => ⟨h.1, Prs.app ht h.2⟩
  | [], _ :: _, h => h.elim
  | _ :: _, [], h => h.elim
theorem Prs.len {H : Hp} : ∀ {ts : List Addr} {es : List (Int × Int)}, Prs H ts es → ts.length = es.length
  | [], [], _ => rfl
  | _ :: _, _ :: _, h => by rw [List.length_cons, List.length_cons, Prs.len h.2]
  | [], _ :: _, h => h.elim
  | _ :: _, [], h => h.elim
theorem Prs.get {H : Hp} : ∀ {ts : List Addr} {es : List (Int × Int)} {i : Nat} {t : Addr}, Prs H ts es → ts[i]? = some t → ∃ e, es[i]? = some e ∧ H t = some (.tup [.int e.1, .int e.2])
  | t :: ts, e :: es, 0, _, h, g => by
    simp at g; subst g
    exact ⟨e, rfl, h.1⟩
  | t :: ts, e :: es, i + 1, _, h, g => by
    obtain ⟨e', h1, h2⟩ := Prs.get h.2 (by simpa using g)
    exact ⟨e', by simpa using h1, h2⟩
  | [], [], _, _, _, g => by simp at g
  | [], _ :: _, _, _, h, _ => h.elim
  | _ :: _, [], _, _, h, _ => h.elim
/-- all keys are whole numbers, each once, and blocks of entries -/
def KeyI (H : Hp) (dh : Addr) (z : Int) (es : List En) : Prop := ∀ kvs : List (Key × V), H dh = some (.dK kvs) → (∃ ks : List Int, kvs.map (·.1) = ks.map Sum.inl ∧ ks.Nodup) ∧ ∀ q : Int, valV kvs (.inl q) ≠ none → ∃ e ∈ es, e.2 / z = q
theorem KeyI.keep {H H' : Hp} {dh : Addr} {z : Int} {es es' : List En} {kvs : List (Key × V)} (k : KeyI H dh z es) (h : H dh = some (.dK kvs)) (h' : H' dh = some (.dK kvs)) (hs : ∀ e ∈ es, e ∈ es') : KeyI H' dh z es' := fun kws g => by
  rw [h'] at g
  cases g
  obtain ⟨a, b⟩ := k _ h
  refine ⟨a, fun q hq => ?_⟩
  obtain ⟨e, he, hz⟩ := b q hq
  exact ⟨e, hs e he, hz⟩
theorem keyI_nil {H : Hp} {dh : Addr} {z : Int} {es : List En} (h : H dh = some (.dK [])) : KeyI H dh z es := fun kvs g => by
  rw [h] at g
  cases g
  exact ⟨⟨[], rfl, List.nodup_nil⟩, fun q hq => absurd rfl hq⟩
theorem KeyI.put {H H' : Hp} {dh : Addr} {z : Int} {es : List En} {kvs : List (Key × V)} {e : En} {v : V} (k : KeyI H dh z es) (h : H dh = some (.dK kvs)) (hv : valV kvs (.inl (e.2 / z)) = none) (h' : H' dh = some (.dK (putK kvs (.inl (e.2 / z)) v))) : KeyI H' dh z (es ++ [e]) := fun kws g => by
  rw [h'] at g
  cases g
  obtain ⟨⟨ks, h1, h2⟩, h3⟩ := k _ h
  refine ⟨⟨ks ++ [e.2 / z], by rw [putK_new _ hv, List.map_append, h1, List.map_append]; rfl, ?_⟩, fun q hq => ?_⟩
  · rw [List.nodup_append]
    refine ⟨h2, by simp, fun a ha b hb => ?_⟩
    rw [List.mem_singleton.mp hb]
    rintro rfl
    have hm : (Sum.inl (e.2 / z) : Key) ∈ kvs.map (·.1) := by
      rw [h1]
      exact List.mem_map_of_mem ha
    obtain ⟨kv, hk, e'⟩ := List.mem_map.mp hm
    have h9 := valV_any (Sum.inl (e.2 / z) : Key) kvs
    rw [hv] at h9
    have h8 : (kvs.any fun kv => decide (kv.1 = (Sum.inl (e.2 / z) : Key))) = true := List.any_eq_true.mpr ⟨kv, hk, decide_eq_true e'⟩
    rw [h8] at h9
    cases h9
  · rw [valV_put] at hq
    by_cases g : (Sum.inl q : Key) = .inl (e.2 / z)
    · cases g
      exact ⟨e, by simp, rfl⟩
    · rw [if_neg g] at hq
      obtain ⟨e', he, hz⟩ := h3 q hq
      exact ⟨e', List.mem_append_left _ he, hz⟩
/-- the two dicts of a Sight, over entries that were gone through; own: which list is whose -/
structure Dicts (H : Hp) (dh dp : Addr) (z : Int) (ns : List Str) (es es' : List En) (own : Addr → Option (Int ⊕ Str)) : Prop where
  hd : ∃ kvs : List (Key × V), H dh = some (.dK kvs) ∧ kvs.length ≤ es.length ∧ ∀ q : Int, (valV kvs (.inl q) = none ∧ hold z es q = []) ∨ ∃ a, valV kvs (.inl q) = some (.ref a) ∧ own a = some (.inl q) ∧ CrewAt H a (hold z es q)
  pl : ∃ kvs : List (Key × V), H dp = some (.dK kvs) ∧ ∀ n ∈ ns, ∃ a ts, valV kvs (.inr n) = some (.ref a) ∧ own a = some (.inr n) ∧ H a = some (.lst (ts.map V.ref)) ∧ Prs H ts (plc z n 0 es')
  al : ∀ a, own a ≠ none → ∃ xs, H a = some (.lst xs)
  ne : dh ≠ dp
  ky : KeyI H dh z es
/-- all but one thing stays as it was -/
def Keep (p : Addr) (H H' : Hp) : Prop := ∀ a o, a ≠ p → H a = some o → H' a = some o
theorem Keep.refl (p : Addr) (H : Hp) : Keep p H H := fun _ _ _ h => h
theorem Keep.new {p : Addr} {H H' : Hp} (k : Keep p H H') {l : Addr} {o : HO} (hl : H' l = none) : Keep p H (upd H' l o) := fun a x n h => upd_keep (k a x n h) (ne_of_none (k a x n h) hl)
theorem Keep.mut {p : Addr} {H H' : Hp} (k : Keep p H H') {o : HO} : Keep p H (upd H' p o) := fun a x n h => upd_keep (k a x n h) n
theorem Keep.put {p : Addr} {H H' : Hp} (k : Keep p H H') {l : Addr} {o : HO} (hl : H l = none) : Keep p H (upd H' l o) := fun a x n h => upd_keep (k a x n h) (ne_of_none h hl)
abbrev CS (K : PySem.W.Frag) : Addr := He.ga K "Sight"
def fsS (nl : Addr) (m : Int) (dh dp : Addr) : List (Str × V) := [("names", .ref nl), ("last_slot", .int m), ("holders", .ref dh), ("places", .ref dp)]
def SightAt (K : PySem.W.Frag) (H : Hp) (p : Addr) (z : Int) (ns : List Str) (es : List En) : Prop :=
  ∃ dx nl dh dp own, H p = some (.ins (CS K) dx (fsS nl (es.length : Int) dh dp)) ∧ CrewAt H nl ns ∧ Dicts H dh dp z ns es es own ∧ WF z ns es
def sp_Sight_init (K : PySem.W.Frag) : Sp := fun vs H Q _ => ∃ (p dx : Addr) (z : Int) (c s : Addr) (ns : List Str) (es : List En), vs = [.ref p, .int z, .ref c, .ref s] ∧ H p = some (.ins (CS K) dx []) ∧ WF z ns es ∧ CrewAt H c ns ∧ EntsAt H s es ∧
  ∀ H', (∀ a o, a ≠ p → H a = some o → H' a = some o) → SightAt K H' p z ns es → Q .non H'
/-- the window of a server for a block -/
def low (far : Int) : List (Int × Int) → Int → Int
  | [], l => l
  | (i, b) :: r, l => low far r (if b < far then i + 1 else l)
def high (far : Int) : List (Int × Int) → Int → Int
  | [], h => h
  | (i, b) :: r, h => high far r (if b < far then h else min h i)
def winD (z : Int) (es : List En) (n : Str) (far : Int) : PyData := if (hold z es far).any (fun x => x != n) then .none else .tuple [.int (low far (plc z n 0 es) 0), .int (high far (plc z n 0 es) (es.length : Int))]
def sp_Sight_window_of (K : PySem.W.Frag) : Sp := fun vs H Q _ => ∃ (p : Addr) (z : Int) (ns : List Str) (es : List En) (n : Str) (far : Int), vs = [.ref p, .str n, .int far] ∧ SightAt K H p z ns es ∧ n ∈ ns ∧ ∀ v H', Same H H' → Dp K H' v (winD z es n far) → Q v H'
/-- what the class must be -/
structure SF (K : PySem.W.Frag) : Prop where
  cl : Cls K (CS K)
  nN : NoAttr K (CS K) "names"
  nL : NoAttr K (CS K) "last_slot"
  nH : NoAttr K (CS K) "holders"
  nP : NoAttr K (CS K) "places"
theorem fsS_names (nl : Addr) (m : Int) (dh dp : Addr) : (fsS nl m dh dp).lookup ("names" : Str) = some (.ref nl) := by
  unfold fsS
  rw [List.lookup_cons, show (("names" : Str) == ("names" : Str)) = true by decide +kernel]
theorem fsS_last (nl : Addr) (m : Int) (dh dp : Addr) : (fsS nl m dh dp).lookup ("last_slot" : Str) = some (.int m) := by
  unfold fsS
  rw [List.lookup_cons, show (("last_slot" : Str) == ("names" : Str)) = false by decide +kernel, List.lookup_cons, show (("last_slot" : Str) == ("last_slot" : Str)) = true by decide +kernel]
theorem fsS_holders (nl : Addr) (m : Int) (dh dp : Addr) : (fsS nl m dh dp).lookup ("holders" : Str) = some (.ref dh) := by
  unfold fsS
  rw [List.lookup_cons, show (("holders" : Str) == ("names" : Str)) = false by decide +kernel, List.lookup_cons, show (("holders" : Str) == ("last_slot" : Str)) = false by decide +kernel, List.lookup_cons, show (("holders" : Str) == ("holders" : Str)) = true by decide +kernel]
theorem fsS_places (nl : Addr) (m : Int) (dh dp : Addr) : (fsS nl m dh dp).lookup ("places" : Str) = some (.ref dp) := by
  unfold fsS
  rw [List.lookup_cons, show (("places" : Str) == ("names" : Str)) = false by decide +kernel, List.lookup_cons, show (("places" : Str) == ("last_slot" : Str)) = false by decide +kernel, List.lookup_cons, show (("places" : Str) == ("holders" : Str)) = false by decide +kernel, List.lookup_cons,
    show (("places" : Str) == ("places" : Str)) = true by decide +kernel]
/-- the holders of a block, looked up -/
theorem Dicts.held {H : Hp} {dh dp : Addr} {z : Int} {ns : List Str} {es es' : List En} {own : Addr → Option (Int ⊕ Str)} (D : Dicts H dh dp z ns es es' own) (q : Int) {l : Addr} (hl : H l = some (.lst [])) :
    ∃ kvs : List (Key × V), H dh = some (.dK kvs) ∧ ∃ a, ((valV kvs (.inl q)).getD (.ref l)) = .ref a ∧ CrewAt H a (hold z es q) := by
  obtain ⟨kvs, h1, _, h2⟩ := D.hd
  refine ⟨kvs, h1, ?_⟩
  rcases h2 q with ⟨h3, h4⟩ | ⟨a, h3, _, h4⟩
  · rw [h3, h4]
    exact ⟨l, rfl, hl⟩
  · rw [h3]
    exact ⟨a, rfl, h4⟩
theorem Dicts.same {H H' : Hp} {dh dp : Addr} {z : Int} {ns : List Str} {es es' : List En} {own : Addr → Option (Int ⊕ Str)} (D : Dicts H dh dp z ns es es' own) (e : Same H H') : Dicts H' dh dp z ns es es' own := by
  obtain ⟨kvs, h1, h2, h3⟩ := D.hd
  obtain ⟨kws, g1, g2⟩ := D.pl
  refine ⟨⟨kvs, e _ _ h1, h2, fun q => (h3 q).imp id fun ⟨a, x, y, w⟩ => ⟨a, x, y, w.same e⟩⟩, ⟨kws, e _ _ g1, fun n hn => ?_⟩, fun a ha => ?_, D.ne, D.ky.keep h1 (e _ _ h1) fun _ h => h⟩
  · obtain ⟨a, ts, x, y, u, v⟩ := g2 n hn
    exact ⟨a, ts, x, y, e _ _ u, v.imp fun t xs g => e _ _ g⟩
  · obtain ⟨xs, hx⟩ := D.al a ha
    exact ⟨xs, e _ _ hx⟩
theorem SightAt.same {K : PySem.W.Frag} {H H' : Hp} {p : Addr} {z : Int} {ns : List Str} {es : List En} (e : Same H H') (h : SightAt K H p z ns es) : SightAt K H' p z ns es := by
  obtain ⟨dx, nl, dh, dp, own, h1, h2, h3, h4⟩ := h
  exact ⟨dx, nl, dh, dp, own, e _ _ h1, h2.same e, h3.same e, h4⟩
theorem low_app (far : Int) : ∀ (xs : List (Int × Int)) (p : Int × Int) (l : Int), low far (xs ++ [p]) l = if p.2 < far then p.1 + 1 else low far xs l
  | [], (i, b), l => rfl
  | (i, b) :: xs, p, l => low_app far xs p _
theorem high_app (far : Int) : ∀ (xs : List (Int × Int)) (p : Int × Int) (h : Int), high far (xs ++ [p]) h = if p.2 < far then high far xs h else min (high far xs h) p.1
  | [], (i, b), h => rfl
  | (i, b) :: xs, p, h => high_app far xs p _
theorem Keep.free {p : Addr} {H H' : Hp} (k : Keep p H H') {o : HO} (hp : H' p = some o) {l : Addr} (hl : H' l = none) : H l = none := by
  cases h : H l with
  | none => rfl
  | some x =>
    have n : l ≠ p := fun e => by
      rw [e, hp] at hl
      cases hl
    rw [k l x n h] at hl
    cases hl
theorem it_list {K : PySem.W.Frag} {a : Addr} {xs : List V} {H0 : Hp} {Qd : Hp → Prop} {B : V → Hp → (Hp → Prop) → Prop} (Pv : Nat → Hp → Prop) (h0 : Pv 0 H0) (hl : ∀ i H, i ≤ xs.length → Pv i H → SqL K H a xs)
    (hs : ∀ i x H, xs[i]? = some x → Pv i H → B x H (Pv (i + 1))) (hd : ∀ H, Pv xs.length H → Qd H) :
    ∃ W : Nat → Nat → Hp → Prop, (∃ m, W 0 m H0) ∧ ∀ i m H, W i m H → ((Itl K a).stop i H ∧ Qd H) ∨ ((Itl K a).go i H ∧ ∃ Nx : Hp → Prop, (∀ H', Nx H' → ∃ m', m' < m ∧ W (i + 1) m' H') ∧ ∀ x H', (Itl K a).yld i H x H' → B x H' Nx) := by
  refine ⟨fun i m H => m = xs.length - i ∧ i ≤ xs.length ∧ Pv i H, ⟨_, rfl, Nat.zero_le _, h0⟩, ?_⟩
  rintro i m H ⟨rfl, hi, p⟩
  have q := hl i H hi p
  by_cases hlt : i < xs.length
  · refine .inr ⟨⟨xs, xs[i], q, by simp [hlt]⟩, Pv (i + 1), fun H' p' => ⟨_, by omega, rfl, hlt, p'⟩, fun x H' y => ?_⟩
    obtain ⟨e, y⟩ := y
    subst e
    exact hs i x _ (y xs q) p
  · have e : i = xs.length := by omega
    subst e
    exact .inl ⟨⟨xs, q, Nat.le_refl _⟩, hd H p⟩
theorem loop_enum {K : PySem.W.Frag} {a : Addr} {g : TG} {tb : TS} {D : Ends} {σ : L2.St} {H : Hp} (xs : List V) (Pv : Nat → L2.St → Hp → Prop) (h0 : Pv 0 σ H) (hl : ∀ i σ' H', i ≤ xs.length → Pv i σ' H' → SqL K H' a xs)
    (hs : ∀ (i : Nat) x σ' H' T, xs[i]? = some x → Pv i σ' H' → H' T = none → g (.ref T) σ' (upd H' T (.tup [.int (i : Int), x])) fun σ2 H2 => tb { D with nx := Pv (i + 1), ct := Pv (i + 1), bk := D.nx } σ2 H2)
    (hd : ∀ σ' H', Pv xs.length σ' H' → D.nx σ' H') : LoopR (Ite K a) g tb D σ H := by
  refine ⟨fun i m σ H => m = xs.length - i ∧ i ≤ xs.length ∧ Pv i σ H, ⟨_, rfl, Nat.zero_le _, h0⟩, ?_⟩
  rintro i m σ H ⟨rfl, hi, p⟩
  have q := hl i σ H hi p
  by_cases hlt : i < xs.length
  · refine .inr ⟨⟨xs, xs[i], q, by simp [hlt]⟩, Pv (i + 1), fun σ' H' p' => ⟨_, by omega, rfl, hlt, p'⟩, fun x H' y => ?_⟩
    obtain ⟨T, x', rfl, hT, rfl, y⟩ := y
    exact hs i x' σ H T (y xs q) p hT
  · have e : i = xs.length := by omega
    subst e
    exact .inl ⟨⟨xs, q, Nat.le_refl _⟩, hd σ H p⟩
theorem hold_app (z : Int) (es : List En) (e : En) (q : Int) : hold z (es ++ [e]) q = hold z es q ++ (if e.2 / z = q then [e.1] else []) := by
  unfold hold
  rw [List.filter_append, List.map_append]
  by_cases h : e.2 / z = q
  · simp [h]
  · simp [h]
theorem plc_app (z : Int) (n : Str) : ∀ (es : List En) (k : Nat) (e : En), plc z n k (es ++ [e]) = plc z n k es ++ (if e.1 = n then [(((k + es.length : Nat) : Int), e.2 / z)] else [])
  | [], k, e => by
    show plc z n k [e] = _
    unfold plc
    unfold plc
    simp
  | x :: es, k, e => by
    have ih := plc_app z n es (k + 1) e
    have ek : k + 1 + es.length = k + (x :: es).length := by
      rw [List.length_cons]
      omega
    rw [ek] at ih
    show plc z n k (x :: (es ++ [e])) = _
    rw [show plc z n k (x :: (es ++ [e])) = if x.1 = n then ((k : Int), x.2 / z) :: plc z n (k + 1) (es ++ [e]) else plc z n (k + 1) (es ++ [e]) from rfl, show plc z n k (x :: es) = if x.1 = n then ((k : Int), x.2 / z) :: plc z n (k + 1) es else plc z n (k + 1) es from rfl, ih]
    by_cases h : x.1 = n
    · rw [if_pos h, if_pos h]
      rfl
    · rw [if_neg h, if_neg h]
theorem Dicts.place {H : Hp} {dh D : Addr} {z : Int} {ms : List Str} {own : Addr → Option (Int ⊕ Str)} (d : Dicts H dh D z ms [] [] own) {kvs : List (Key × V)} (hD : H D = some (.dK kvs)) {n : Str} (hn : n ∉ ms) {l : Addr} (hl : H l = none) :
    Dicts (upd (upd H l (.lst [])) D (.dK (putK kvs (.inr n) (.ref l)))) dh D z (ms ++ [n]) [] [] (fun a => if a = l then some (.inr n) else own a) := by
  have nlD : l ≠ D := (ne_of_none hD hl).symm
  have keep : ∀ a o, H a = some o → a ≠ D → upd (upd H l (.lst [])) D (.dK (putK kvs (.inr n) (.ref l))) a = some o := fun a o h h2 => upd_keep (upd_keep h (ne_of_none h hl)) h2
  obtain ⟨kv0, h1, h2, h3⟩ := d.hd
  obtain ⟨kw, g1, g2⟩ := d.pl
  rw [hD] at g1
  cases g1
  refine ⟨⟨kv0, keep _ _ h1 d.ne, h2, fun q => (h3 q).imp id ?_⟩, ⟨_, upd_same, fun n' hn' => ?_⟩, fun a ha => ?_, d.ne, d.ky.keep h1 (keep _ _ h1 d.ne) fun _ h => h⟩
  · rintro ⟨a, x, y, w⟩
    exact ⟨a, x, by rw [if_neg (ne_of_none w hl)]; exact y, keep _ _ w (ne_of w hD (by simp))⟩
  · rw [valV_put]
    rcases List.mem_append.mp hn' with h | h
    · have hne : n' ≠ n := fun e => hn (e ▸ h)
      obtain ⟨a, ts, x, y, u, v⟩ := g2 n' h
      refine ⟨a, ts, by rw [if_neg (fun e => hne (by injection e))]; exact x, by rw [if_neg (ne_of_none u hl)]; exact y, keep _ _ u (ne_of u hD (by simp)), v.imp fun t xs g => keep _ _ g (ne_of g hD (by simp))⟩
    · rw [List.mem_singleton.mp h]
      exact ⟨l, [], by rw [if_pos rfl], by rw [if_pos rfl], upd_keep upd_same nlD, trivial⟩
  · by_cases h : a = l
    · subst h
      exact ⟨_, upd_keep upd_same nlD⟩
    · rw [if_neg h] at ha
      obtain ⟨xs, hx⟩ := d.al a ha
      exact ⟨xs, keep _ _ hx (ne_of hx hD (by simp))⟩
/-- one server more among the holders of a block: its list stood -/
theorem Dicts.hold1 {H : Hp} {dh dp : Addr} {z : Int} {ns : List Str} {es es' : List En} {own : Addr → Option (Int ⊕ Str)} (d : Dicts H dh dp z ns es es' own) {e : En} {a l : Addr} (ho : own a = some (.inl (e.2 / z))) (ha : CrewAt H a (hold z es (e.2 / z)))
    (hl : H l = none) {kvs : List (Key × V)} (hk : H dh = some (.dK kvs)) (hv : valV kvs (.inl (e.2 / z)) = some (.ref a)) : Dicts (upd (upd H l (.lst [])) a (.lst ((hold z es (e.2 / z)).map V.str ++ [.str e.1]))) dh dp z ns (es ++ [e]) es' own := by
  have keep : ∀ b o, H b = some o → b ≠ a → upd (upd H l (.lst [])) a (.lst ((hold z es (e.2 / z)).map V.str ++ [.str e.1])) b = some o := fun b o h h2 => upd_keep (upd_keep h (ne_of_none h hl)) h2
  obtain ⟨kv0, h1, h2, h3⟩ := d.hd
  obtain ⟨kw, g1, g2⟩ := d.pl
  rw [hk] at h1
  cases h1
  refine ⟨⟨kvs, keep _ _ hk (ne_of hk ha (by simp)), by rw [List.length_append]; omega, fun q => ?_⟩, ⟨kw, keep _ _ g1 (ne_of g1 ha (by simp)), fun n hn => ?_⟩, fun b hb => ?_, d.ne, d.ky.keep hk (keep _ _ hk (ne_of hk ha (by simp))) fun _ h => List.mem_append_left _ h⟩
  · rw [hold_app]
    by_cases h : e.2 / z = q
    · subst h
      exact .inr ⟨a, hv, ho, by rw [if_pos rfl]; show upd _ _ _ _ = _; rw [upd_same, List.map_append]; rfl⟩
    · rw [if_neg h, List.append_nil]
      refine (h3 q).imp id ?_
      rintro ⟨b, x, y, w⟩
      refine ⟨b, x, y, keep _ _ w fun eq => h ?_⟩
      rw [eq, ho] at y
      injection y with y
      injection y
  · obtain ⟨b, ts, x, y, u, v⟩ := g2 n hn
    refine ⟨b, ts, x, y, keep _ _ u fun eq => ?_, v.imp fun t xs g => keep _ _ g (ne_of g ha (by simp))⟩
    rw [eq, ho] at y
    cases y
  · by_cases h : b = a
    · subst h
      exact ⟨_, upd_same⟩
    · obtain ⟨xs, hx⟩ := d.al b hb
      exact ⟨xs, keep _ _ hx h⟩
/-- .. its list is new -/
theorem Dicts.hold0 {H : Hp} {dh dp : Addr} {z : Int} {ns : List Str} {es es' : List En} {own : Addr → Option (Int ⊕ Str)} (d : Dicts H dh dp z ns es es' own) {e : En} {l : Addr} (hl : H l = none) {kvs : List (Key × V)} (hk : H dh = some (.dK kvs))
    (hv : valV kvs (.inl (e.2 / z)) = none) : hold z es (e.2 / z) = [] ∧ Dicts (upd (upd (upd H l (.lst [])) dh (.dK (putK kvs (.inl (e.2 / z)) (.ref l)))) l (.lst [.str e.1])) dh dp z ns (es ++ [e]) es' (fun b => if b = l then some (.inl (e.2 / z)) else own b) := by
  have nl : dh ≠ l := ne_of_none hk hl
  have keep : ∀ b o, H b = some o → b ≠ dh → upd (upd (upd H l (.lst [])) dh (.dK (putK kvs (.inl (e.2 / z)) (.ref l)))) l (.lst [.str e.1]) b = some o := fun b o h h2 => upd_keep (upd_keep (upd_keep h (ne_of_none h hl)) h2) (ne_of_none h hl)
  obtain ⟨kv0, h1, h2, h3⟩ := d.hd
  obtain ⟨kw, g1, g2⟩ := d.pl
  rw [hk] at h1
  cases h1
  have hno : hold z es (e.2 / z) = [] := by
    rcases h3 (e.2 / z) with h | ⟨a, h, _⟩
    · exact h.2
    · rw [hv] at h
      cases h
  have hpl : (putK kvs (.inl (e.2 / z)) (.ref l)).length = kvs.length + 1 := by rw [putK_new _ hv]; simp
  refine ⟨hno, ⟨_, upd_keep upd_same nl, by rw [List.length_append, List.length_singleton]; omega, fun q => ?_⟩, ⟨kw, keep _ _ g1 d.ne.symm, fun n hn => ?_⟩, fun b hb => ?_, d.ne, d.ky.put hk hv (upd_keep upd_same nl)⟩
  · rw [valV_put, hold_app]
    by_cases h : e.2 / z = q
    · subst h
      refine .inr ⟨l, by rw [if_pos rfl], by rw [if_pos rfl], ?_⟩
      rw [hno, if_pos rfl]
      exact upd_same
    · rw [if_neg (fun eq => h (by injection eq with eq; exact eq.symm)), if_neg h, List.append_nil]
      refine (h3 q).imp id ?_
      rintro ⟨b, x, y, w⟩
      exact ⟨b, x, by rw [if_neg (ne_of_none w hl)]; exact y, keep _ _ w (ne_of w hk (by simp))⟩
  · obtain ⟨b, ts, x, y, u, v⟩ := g2 n hn
    exact ⟨b, ts, x, by rw [if_neg (ne_of_none u hl)]; exact y, keep _ _ u (ne_of u hk (by simp)), v.imp fun t xs g => keep _ _ g (ne_of g hk (by simp))⟩
  · by_cases h : b = l
    · subst h
      exact ⟨_, upd_same⟩
    · rw [if_neg h] at hb
      obtain ⟨xs, hx⟩ := d.al b hb
      exact ⟨xs, keep _ _ hx (ne_of hx hk (by simp))⟩
/-- one place more of a server -/
theorem Dicts.place1 {H : Hp} {dh dp : Addr} {z : Int} {ns : List Str} {es es' : List En} {own : Addr → Option (Int ⊕ Str)} (d : Dicts H dh dp z ns es es' own) {e : En} {a t : Addr} {ts : List Addr} (ho : own a = some (.inr e.1)) (ha : H a = some (.lst (ts.map V.ref)))
    (hp : Prs H ts (plc z e.1 0 es')) (ht : H t = none) {kws : List (Key × V)} (hk : H dp = some (.dK kws)) (hv : valV kws (.inr e.1) = some (.ref a)) : Dicts (upd (upd H t (.tup [.int (es'.length : Int), .int (e.2 / z)])) a (.lst (ts.map V.ref ++ [.ref t]))) dh dp z ns es (es' ++ [e]) own := by
  have keep : ∀ b o, H b = some o → b ≠ a → upd (upd H t (.tup [.int (es'.length : Int), .int (e.2 / z)])) a (.lst (ts.map V.ref ++ [.ref t])) b = some o := fun b o h h2 => upd_keep (upd_keep h (ne_of_none h ht)) h2
  have nta : t ≠ a := (ne_of_none ha ht).symm
  obtain ⟨kv0, h1, h2, h3⟩ := d.hd
  obtain ⟨kw, g1, g2⟩ := d.pl
  rw [hk] at g1
  cases g1
  refine ⟨⟨kv0, keep _ _ h1 (ne_of h1 ha (by simp)), h2, fun q => (h3 q).imp id ?_⟩, ⟨kws, keep _ _ hk (ne_of hk ha (by simp)), fun n hn => ?_⟩, fun b hb => ?_, d.ne, d.ky.keep h1 (keep _ _ h1 (ne_of h1 ha (by simp))) fun _ h => h⟩
  · rintro ⟨b, x, y, w⟩
    refine ⟨b, x, y, keep _ _ w fun eq => ?_⟩
    rw [eq, ho] at y
    cases y
  · obtain ⟨b, us, x, y, u, v⟩ := g2 n hn
    rw [plc_app, Nat.zero_add]
    by_cases h : e.1 = n
    · subst h
      rw [hv] at x
      injection x with x
      injection x with x
      subst x
      rw [ha] at u
      injection u with u
      injection u with u
      have eu : ts = us := by
        have := congrArg (List.map fun v => match v with | V.ref q => q | _ => a) u
        simpa [List.map_map, Function.comp_def] using this
      subst eu
      refine ⟨a, ts ++ [t], hv, ho, by rw [upd_same, List.map_append]; rfl, ?_⟩
      rw [if_pos rfl]
      exact Prs.app (e := ((es'.length : Int), e.2 / z)) (upd_keep upd_same nta) (hp.imp fun t xs g => keep _ _ g (ne_of g ha (by simp)))
    · rw [if_neg h, List.append_nil]
      refine ⟨b, us, x, y, keep _ _ u fun eq => h ?_, v.imp fun t xs g => keep _ _ g (ne_of g ha (by simp))⟩
      rw [eq, ho] at y
      injection y with y
      injection y
  · by_cases h : b = a
    · subst h
      exact ⟨_, upd_same⟩
    · obtain ⟨xs, hx⟩ := d.al b hb
      exact ⟨xs, keep _ _ hx h⟩
theorem fsS_put (nl : Addr) (m : Int) (dh dp : Addr) : putF "places" (.ref dp) [("names", .ref nl), ("last_slot", .int m), ("holders", .ref dh)] = fsS nl m dh dp := by
  have h1 : ¬ (("names" : Str) = "places") := by decide +kernel
  have h2 : ¬ (("last_slot" : Str) = "places") := by decide +kernel
  have h3 : ¬ (("holders" : Str) = "places") := by decide +kernel
  simp [putF, if_neg h1, if_neg h2, if_neg h3, fsS]
theorem plc_len (z : Int) (n : Str) : ∀ (es : List En) (k : Nat), (plc z n k es).length ≤ es.length
  | [], _ => Nat.le_refl _
  | x :: es, k => by
    have ih := plc_len z n es (k + 1)
    rw [show plc z n k (x :: es) = if x.1 = n then ((k : Int), x.2 / z) :: plc z n (k + 1) es else plc z n (k + 1) es from rfl, List.length_cons]
    by_cases h : x.1 = n
    · rw [if_pos h, List.length_cons]
      omega
    · rw [if_neg h]
      omega
theorem putK_le (c : List (Key × V)) (k : Key) (x : V) : (putK c k x).length ≤ c.length + 1 := by
  unfold putK
  split
  · rw [List.length_map]
    omega
  · rw [List.length_append, List.length_singleton]
    omega
theorem Dicts.mutP {H : Hp} {dh dp : Addr} {z : Int} {ns : List Str} {es es' : List En} {own : Addr → Option (Int ⊕ Str)} (D : Dicts H dh dp z ns es es' own) {p c d : Addr} {f g : List (Str × V)} (hp : H p = some (.ins c d f)) : Dicts (upd H p (.ins c d g)) dh dp z ns es es' own := by
  obtain ⟨kvs, h1, h2, h3⟩ := D.hd
  obtain ⟨kws, g1, g2⟩ := D.pl
  refine ⟨⟨kvs, upd_keep h1 (ne_of h1 hp (by simp)), h2, fun q => (h3 q).imp id fun ⟨a, x, y, w⟩ => ⟨a, x, y, upd_keep w (ne_of w hp (by simp))⟩⟩, ⟨kws, upd_keep g1 (ne_of g1 hp (by simp)), fun n hn => ?_⟩, fun a ha => ?_, D.ne, D.ky.keep h1 (upd_keep h1 (ne_of h1 hp (by simp))) fun _ h => h⟩
  · obtain ⟨a, ts, x, y, u, v⟩ := g2 n hn
    exact ⟨a, ts, x, y, upd_keep u (ne_of u hp (by simp)), v.imp fun t xs g => upd_keep g (ne_of g hp (by simp))⟩
  · obtain ⟨xs, hx⟩ := D.al a ha
    exact ⟨xs, upd_keep hx (ne_of hx hp (by simp))⟩
def sp_check_block (_ : PySem.W.Frag) : Sp := fun vs H Q _ => ∃ i, vs = [.int i] ∧ 0 ≤ i ∧ Q .non H
def sp_sight_of (K : PySem.W.Frag) : Sp := fun vs H Q _ => ∃ p b z ns es, vs = [.ref p] ∧ LogAt K H p b z ns es ∧ ∀ a H', Same H H' → SightAt K H' a z ns es → Q (.ref a) H'
def sp_window (K : PySem.W.Frag) : Sp := fun vs H Q _ => ∃ p b z ns es n far, vs = [.ref p, .str n, .int far] ∧ LogAt K H p b z ns es ∧ n ∈ ns ∧ 0 ≤ far ∧ ∀ v H', Same H H' → Dp K H' v (winD z es n far) → Q v H'
theorem fsS_no (nl : Addr) (m : Int) (dh dp : Addr) : (fsS nl m dh dp).lookup ("window_of" : Str) = none := by
  unfold fsS
  rw [List.lookup_cons, show (("window_of" : Str) == ("names" : Str)) = false by decide +kernel, List.lookup_cons, show (("window_of" : Str) == ("last_slot" : Str)) = false by decide +kernel, List.lookup_cons, show (("window_of" : Str) == ("holders" : Str)) = false by decide +kernel, List.lookup_cons,
    show (("window_of" : Str) == ("places" : Str)) = false by decide +kernel]
  rfl
/-- the law's own window, entry by entry -/
def lawW (z : Int) (n : Str) (far m : Int) : Int → List En → Int → Int → Option (Int × Int)
  | _, [], l, h => some (l, h)
  | k, e :: es, l, h => if e.1 ≠ n ∧ e.2 / z = far then none else lawW z n far m (k + 1) es (if e.1 = n ∧ e.2 / z < far then k + 1 else l) (if e.1 = n ∧ far ≤ e.2 / z ∧ h = m then k else h)
def duD : Option (Int × Int) → PyData
  | none => .none
  | some (l, h) => .tuple [.int l, .int h]
def sp_law_window (K : PySem.W.Frag) : Sp := fun vs H Q _ => ∃ (s : Addr) (z : Int) (n : Str) (far : Int) (es : List En), vs = [.ref s, .int z, .str n, .int far] ∧ SizeOk z ∧ es.length ≤ 200 ∧ EntsAt H s es ∧ ∀ v H', Same H H' → Dp K H' v (duD (lawW z n far (es.length : Int) 0 es 0 (es.length : Int))) → Q v H'
theorem dS {a b : Str} : decide (V.str a = V.str b) = decide (a = b) := by simp
theorem dI {a b : Int} : decide (V.int a = V.int b) = decide (a = b) := by simp
theorem lawW_cons (z : Int) (n : Str) (far m k : Int) (e : En) (es : List En) (l h : Int) : lawW z n far m k (e :: es) l h = if e.1 ≠ n ∧ e.2 / z = far then none else lawW z n far m (k + 1) es (if e.1 = n ∧ e.2 / z < far then k + 1 else l) (if e.1 = n ∧ far ≤ e.2 / z ∧ h = m then k else h) := rfl
theorem hold_cons (z : Int) (e : En) (es : List En) (q : Int) : hold z (e :: es) q = if e.2 / z = q then e.1 :: hold z es q else hold z es q := by
  unfold hold
  by_cases h : e.2 / z = q
  · simp [h]
  · simp [h]
theorem plc_cons (z : Int) (n : Str) (k : Nat) (e : En) (es : List En) : plc z n k (e :: es) = if e.1 = n then ((k : Int), e.2 / z) :: plc z n (k + 1) es else plc z n (k + 1) es := rfl
theorem low_cons (far i b : Int) (r : List (Int × Int)) (l : Int) : low far ((i, b) :: r) l = low far r (if b < far then i + 1 else l) := rfl
theorem high_cons (far i b : Int) (r : List (Int × Int)) (h : Int) : high far ((i, b) :: r) h = high far r (if b < far then h else min h i) := rfl
theorem lawW_eq (z : Int) (n : Str) (far m : Int) : ∀ (es : List En) (k : Nat) (l h : Int), (h = m ∨ h < (k : Int)) → (k : Int) + (es.length : Int) ≤ m →
    lawW z n far m (k : Int) es l h = if (hold z es far).any (fun x => x != n) then none else some (low far (plc z n k es) l, high far (plc z n k es) h)
  | [], k, l, h, _, _ => rfl
  | e :: es, k, l, h, hh, hm => by
    rw [List.length_cons] at hm
    have ih := fun l' h' (x : h' = m ∨ h' < ((k + 1 : Nat) : Int)) => lawW_eq z n far m es (k + 1) l' h' x (by omega)
    rw [lawW_cons, hold_cons, plc_cons]
    by_cases h1 : e.1 = n
    · rw [if_neg (fun g => g.1 h1), if_pos h1, low_cons, high_cons]
      have hx : ((if e.2 / z = far then e.1 :: hold z es far else hold z es far).any fun x => x != n) = ((hold z es far).any fun x => x != n) := by
        split
        · rw [List.any_cons, h1]
          simp
        · rfl
      rw [hx]
      by_cases h2 : e.2 / z < far
      · rw [if_pos ⟨h1, h2⟩, if_neg (fun g => by have := g.2.1; omega), if_pos h2, if_pos h2]
        exact ih _ _ (by omega)
      · rw [if_neg (fun g => h2 g.2), if_neg h2, if_neg h2]
        by_cases h3 : h = m
        · rw [if_pos ⟨h1, by omega, h3⟩, show min h (k : Int) = (k : Int) by omega]
          exact ih _ _ (by omega)
        · rw [if_neg (fun g => h3 g.2.2), show min h (k : Int) = h by omega]
          exact ih _ _ (by omega)
    · rw [if_neg h1, if_neg (fun g : e.1 = n ∧ e.2 / z < far => h1 g.1), if_neg (fun g : e.1 = n ∧ far ≤ e.2 / z ∧ h = m => h1 g.1)]
      by_cases h2 : e.2 / z = far
      · rw [if_pos ⟨h1, h2⟩, if_pos h2, List.any_cons, show (e.1 != n) = true by simp [h1]]
        rfl
      · rw [if_neg (fun g => h2 g.2), if_neg h2]
        exact ih _ _ (by omega)
theorem duD_winD (z : Int) (n : Str) (far : Int) (es : List En) : duD (lawW z n far (es.length : Int) 0 es 0 (es.length : Int)) = winD z es n far := by
  have h := lawW_eq z n far (es.length : Int) es 0 0 (es.length : Int) (.inl rfl) (by omega)
  rw [show lawW z n far (es.length : Int) 0 es 0 (es.length : Int) = _ from h]
  unfold winD
  split
  · rfl
  · rfl
def sp_law_blocks (K : PySem.W.Frag) : Sp := fun vs H Q _ => ∃ (fa s : Addr) (z : Int) (es : List En), vs = [.ref fa, .ref s, .int z] ∧ Feed H fa ∧ SizeOk z ∧ es.length ≤ 200 ∧ (∀ e ∈ es, 0 ≤ e.2) ∧ EntsAt H s es ∧ ∀ a H' (ms : List Int), H a = none → Stp fa H H' → H' a = some (.lst (ms.map V.int)) → ms.length ≤ 603 → ms ≠ [] → (∀ m ∈ ms, 0 ≤ m) → Q (.ref a) H'
end NbW

set_option Elab.async false
set_option linter.all false
set_option maxRecDepth 100000
set_option maxHeartbeats 4000000
/-! sorted(..) of a set of whole numbers, 64 and more too. -/
namespace NbV
open PySem PySem.Spec PySem.Calls PyProof.Rows L2 Nb NbE NbS NbF NbP NbK NbL NbU NbX NbW
section
variable {P : Program} {w : World} {A : Around} {s : Shared} {a : Addr} {E : Value → Shared → Prop}
theorem sortedS {S : Int → Bool} {n : Nat} {Q : Value → Shared → Prop} (R : SetR w s.heap a S n) (hh : A.handled = none) (few : n ≤ 4000)
    (fin : ∀ s' p (out : Array Value) (c : Nat) (ns : List Int), (∀ b o, s.heap.get? b = some o → s'.heap.get? b = some o) → s'.gens = s.gens → s'.os = s.os → s.heap.objs.size ≤ p →
      s'.heap.get? p = some (seqObj "list" out c) → IntsAre out.toList ns → ns.Pairwise (· < ·) → (∀ k, k ∈ ns ↔ S k = true) → ns.length = n → Q (.ref p) s') :
    wpAny (model P w) A (call (.builtin "sorted") [.ref a]) Q E s := by
  obtain ⟨o, es, ep, t, ho, hex, hd, g, nd, hm, hb, hf, hn, hr, hl⟩ := R
  have hle : n ≤ sizeLine := sz_le (by omega)
  refine Calls.call_function_entry kind_sorted plain_sorted entry_sorted (args_sorted1 _) ?_
  unfold Builtin.«sorted»
  refine wpAny_bind (m := checkCount "sorted" 1 1 _) (wpAny_pure (wpAny_bind (collect_set (A := A.in1) hh ⟨o, ho, hex.1, hd⟩ hf hb hr hl fun s1 vs k1 hz g1 o1 pm => ?_)))
  have many : vs.length = n := by rw [pm.length_eq, List.length_map, Array.length_toList, hn]
  have whole : IntsAre vs (vs.map Builtin.Re.reRawOf) := ints_of vs fun v hv => by
    obtain ⟨e, he, q⟩ := List.mem_map.mp (pm.mem_iff.mp hv)
    obtain ⟨k, tk, h1, _⟩ := g e he
    exact ⟨k, tk, q ▸ h1⟩
  have pk : (vs.map Builtin.Re.reRawOf).Perm (es.toList.map keyOf) := by
    have q := pm.map Builtin.Re.reRawOf
    rwa [List.map_map] at q
  refine wpAny_bind (wpAny_newList ?_ (by rw [many]; exact hle))
  have hoL : (s1.heap.push (seqObj "list" vs.toArray 0)).get? s1.heap.objs.size = some (seqObj "list" vs.toArray 0) := Heap.get?_push_size _ rfl
  refine wpAny_bind (wpAny_holding (wpAny_call_entry slot_list_sort ⟨_, hoL, rfl⟩ entry_list_sort (SrtO.list_sort_ord SrtO.swo_int hoL (by rw [many]; exact hle) (fun h2 => SrtO.ints_sortable whole h2) fun out b1 b2 => ⟨_, rfl, ?_⟩) (args_list_sort _)))
  obtain ⟨a1, a2, a3⟩ := SrtO.ints_out whole b1 b2
  obtain ⟨c, hc⟩ := sortedHeap_at (vs := vs) (out := out.toArray) hoL
  have pn := a2.trans pk
  refine wpAny_pure ⟨_, rfl, fin _ s1.heap.objs.size out.toArray c _ (fun b u e => ?_) g1 o1 hz hc a1 (lt_of_le_nodup _ a3 (pn.nodup_iff.mpr nd)) (fun k => by rw [pn.mem_iff, ← hm k]) ?_⟩
  · have q := k1 b u e
    have hlt := Heap.lt_size q
    show (sortedHeap (s1.heap.push (seqObj "list" vs.toArray 0)) s1.heap.objs.size vs out.toArray).get? b = some u
    rw [sortedHeap_old (Nat.ne_of_lt hlt) (by rw [size_push']; exact Nat.lt_succ_of_lt hlt)]
    exact Heap.get?_push_of_some _ q
  · rw [pn.length_eq, List.length_map, Array.length_toList, hn]
end
/-- sorted(found), a set of whole numbers -/
def rSortS (w : World) : List V → Hp → VK → Prop := fun vs H Q => ∃ (a : Addr) (S : Int → Bool) (n : Nat), vs = [V.ref a] ∧ H a = some (SetO w a S n) ∧ n ≤ 4000 ∧
  ∀ (ms : List Int) (p : Addr), ms.Pairwise (· < ·) → (∀ k : Int, k ∈ ms ↔ S k = true) → ms.length = n → H p = none → Q (.ref p) (upd H p (.lst (ms.map V.int)))
theorem cr_sortS {X : Cx} (hc : X.calm = true) : CallR X (.builtin "sorted") (rSortS X.w) := by
  intro pins s σ H vs us Q I r h
  obtain ⟨a, S, n, rfl, ha, few, q⟩ := h
  rw [Vals.ref1 r]
  refine sortedS (setO_get I ha) (I.ok.hd hc) few fun s' p out c ms k g o hp hg hi hs hm hl => ?_
  have free : H p = none := I.hok.fresh hp
  have fits : (ms.map V.int).length ≤ sizeLine := by
    rw [List.length_map, hl]
    exact sz_le (by omega)
  have J : Inv X pins σ (upd H p (.lst (ms.map V.int))) { s with heap := s'.heap, gens := s'.gens, drawn := s'.drawn, toks := s'.toks } :=
    I.call (ch := []) (Un.laid k hp free) (I.hok.laid k hp ⟨fits, out.toList, c, vals_of_ints hi, hg⟩) (by rw [g]; exact I.bare) (fun _ z => nomatch z)
  have same : s' = { s with heap := s'.heap, gens := s'.gens, drawn := s'.drawn, toks := s'.toks } := by
    cases s'
    cases s
    cases o
    rfl
  rw [same]
  exact ⟨.ref p, _, J, rfl, q ms p hs hm hl free⟩
end NbV

set_option Elab.async false
set_option linter.all false
set_option maxRecDepth 100000
set_option maxHeartbeats 4000000
/-! A def called by keywords alone. -/
namespace NbZ
open PySem PySem.Spec PySem.Calls PyProof.Rows L2 Nb NbE NbS NbF NbP NbK NbL NbU NbX NbW NbV
structure CalF (P : Program) (w : World) (K : PySem.W.Frag) (mg : Str → Option Value) (base : Heap) (k : Nat) (x : Str) (ks : List Str) (gV : List V → List V → List V) (sp : Sp) : Prop where
  ex : ∃ (f : Addr) (fd : FuncData) (ps : List Str) (g : List Value → List Value → List Value), mg x = some (.ref f) ∧ FnOk P w K mg base CX0 k f fd ps sp ∧ PySem.W.keepIn K (.ref f) = true ∧ KBn K fd ps 0 ks g gV
def tCallK0 (n : Nat) (sp : Sp) (gV : List V → List V → List V) (tk : TA) : TE := fun σ H Q => tk σ H fun zs H2 => zs.length = n ∧ sp (gV [] zs) H2 Q E0
variable {X : Cx} {k j : Nat} {sp : Sp} {ks : List Str} {gV : List V → List V → List V} {x : Str} {tk : TA} {kws : List Keyword} {p pos : Pos}
theorem pe_cK0 (c : CalF X.prog X.w X.K X.mg X.base k x ks gV sp) (hr : Room j X.A) (hk : k ≤ j) (hg : Gl X x) (hkw : PK X kws tk) (hall : (backToKw pos (keywordEach kws X.env)).all (·.1.isSome) = true := by rfl)
    (hks : (backToKw pos (keywordEach kws X.env)).filterMap (·.1) = ks := by rfl) (hdb : (x == ("__debug__" : Str)) = false := by decide) (hpl : ((backTo pos (starEach [] X.env)).any (·.1) || (backToKw pos (keywordEach kws X.env)).any (·.1.isNone)) = false := by rfl) :
    PE X (.Call (.Name x p) [] kws pos) (tCallK0 ks.length sp gV tk) := by
  obtain ⟨f, fd, ps, g, hm, F, kp, hb⟩ := c.ex
  refine ⟨fun pins s σ H Q I h => ?_⟩
  refine wpAny_Call_Name_kw (ld_glob I hg hm ?_ hdb)
  refine PySem.W.callWith_KW0 (first := []) (h₀ := X.base) I.ok.mod.kin kp hall ?_ hpl
  refine thn (hkw.run pos pins s σ H _ I h) fun ws s2 z => ?_
  obtain ⟨zs, H2, I2, rz, l2, q2⟩ := z
  refine ⟨I2.kIn, ?_⟩
  rw [hks, List.append_nil]
  refine wpAny_call (codeAny_mono (F.run X.A X.stack s2 H2 ⟨[], ks.zip ws⟩ (g [] ws) (gV [] zs) Q E0 (hr.mono hk) I2.env0 (hb.to s2 [] ws I2.kIn rfl (by rw [← rz.length]; exact l2)) (hb.rel .nil rz) q2) fun r s' hq => ?_)
  cases r with
  | error e => exact hq.elim
  | ok fl => cases fl with
    | ret u => exact I2.after hq
    | _ => exact hq.elim
/-! how keywords alone bind -/
def z1 {α : Type} (g : α → List α) (us ws : List α) : List α := match us, ws with
  | [], [b] => g b
  | _, _ => []
theorem kf1 {K : PySem.W.Frag} {x qual : Str} {params : Arguments} {body : List Stmt} {scope : Scope} {f : Addr} {fd : FuncData} {ps ks : List Str} (F : FunD K x qual params body scope [] [] f fd) (g : {α : Type} → α → List α)
    (hrel : ∀ {b : V} {b' : Value}, RelV b b' → Vals (g b) (g b')) (hk : ks.length = 1)
    (h : ∀ (kV doc pm : Value) (an : Option Addr) (cdv ct b : Value), bindArgs (PySem.W.fnOf x qual params body scope .none kV doc pm an cdv ct) ⟨[], ks.zip [b]⟩ = pure (ps.zip (g b))) : KBn K fd ps 0 ks (z1 g) (z1 g) := by
  obtain ⟨oc, od, dV, kV, doc, pm, an, cdv, ct, osl, rfl, lk, hcd, hD, hK⟩ := F.ex
  rcases hD with ⟨_, rfl⟩ | ⟨e, _⟩
  · refine ⟨fun s us ws X l1 l2 => ?_, fun r1 r2 => ?_⟩
    · rw [hk] at l2
      match us, ws, l1, l2 with
      | [], [b], _, _ => exact .of_eq (h kV doc pm an cdv ct b)
    · cases r1 with
      | cons _ _ => exact .nil
      | nil =>
        cases r2 with
        | nil => exact .nil
        | cons rb r2 =>
          cases r2 with
          | nil => exact hrel rb
          | cons _ _ => exact .nil
  · exact absurd rfl e
def z2 {α : Type} (g : α → α → List α) (us ws : List α) : List α := match us, ws with
  | [], [b, c] => g b c
  | _, _ => []
theorem kf2 {K : PySem.W.Frag} {x qual : Str} {params : Arguments} {body : List Stmt} {scope : Scope} {f : Addr} {fd : FuncData} {ps ks : List Str} (F : FunD K x qual params body scope [] [] f fd) (g : {α : Type} → α → α → List α)
    (hrel : ∀ {b c : V} {b' c' : Value}, RelV b b' → RelV c c' → Vals (g b c) (g b' c')) (hk : ks.length = 2)
    (h : ∀ (kV doc pm : Value) (an : Option Addr) (cdv ct b c : Value), bindArgs (PySem.W.fnOf x qual params body scope .none kV doc pm an cdv ct) ⟨[], ks.zip [b, c]⟩ = pure (ps.zip (g b c))) : KBn K fd ps 0 ks (z2 g) (z2 g) := by
  obtain ⟨oc, od, dV, kV, doc, pm, an, cdv, ct, osl, rfl, lk, hcd, hD, hK⟩ := F.ex
  rcases hD with ⟨_, rfl⟩ | ⟨e, _⟩
  · refine ⟨fun s us ws X l1 l2 => ?_, fun r1 r2 => ?_⟩
    · rw [hk] at l2
      match us, ws, l1, l2 with
      | [], [b, c], _, _ => exact .of_eq (h kV doc pm an cdv ct b c)
    · cases r1 with
      | cons _ _ => exact .nil
      | nil =>
        cases r2 with
        | nil => exact .nil
        | cons rb r2 =>
          cases r2 with
          | nil => exact .nil
          | cons rc r2 =>
            cases r2 with
            | nil => exact hrel rb rc
            | cons _ _ => exact .nil
  · exact absurd rfl e
def z3 {α : Type} (g : α → α → α → List α) (us ws : List α) : List α := match us, ws with
  | [], [b, c, d] => g b c d
  | _, _ => []
theorem kf3 {K : PySem.W.Frag} {x qual : Str} {params : Arguments} {body : List Stmt} {scope : Scope} {f : Addr} {fd : FuncData} {ps ks : List Str} (F : FunD K x qual params body scope [] [] f fd) (g : {α : Type} → α → α → α → List α)
    (hrel : ∀ {b c d : V} {b' c' d' : Value}, RelV b b' → RelV c c' → RelV d d' → Vals (g b c d) (g b' c' d')) (hk : ks.length = 3)
    (h : ∀ (kV doc pm : Value) (an : Option Addr) (cdv ct b c d : Value), bindArgs (PySem.W.fnOf x qual params body scope .none kV doc pm an cdv ct) ⟨[], ks.zip [b, c, d]⟩ = pure (ps.zip (g b c d))) : KBn K fd ps 0 ks (z3 g) (z3 g) := by
  obtain ⟨oc, od, dV, kV, doc, pm, an, cdv, ct, osl, rfl, lk, hcd, hD, hK⟩ := F.ex
  rcases hD with ⟨_, rfl⟩ | ⟨e, _⟩
  · refine ⟨fun s us ws X l1 l2 => ?_, fun r1 r2 => ?_⟩
    · rw [hk] at l2
      match us, ws, l1, l2 with
      | [], [b, c, d], _, _ => exact .of_eq (h kV doc pm an cdv ct b c d)
    · cases r1 with
      | cons _ _ => exact .nil
      | nil =>
        cases r2 with
        | nil => exact .nil
        | cons rb r2 =>
          cases r2 with
          | nil => exact .nil
          | cons rc r2 =>
            cases r2 with
            | nil => exact .nil
            | cons rd r2 =>
              cases r2 with
              | nil => exact hrel rb rc rd
              | cons _ _ => exact .nil
  · exact absurd rfl e
/-- an if whose test does not matter -/
theorem if_any {tt : TT} {ta tb : TS} {D : Ends} {σ : L2.St} {H : Hp} (hc : ∀ QQ : Bool → Hp → Prop, (∀ b, QQ b H) → tt σ H QQ) (ha : ta D σ H) (hb : tb D σ H) : tIfS tt ta tb D σ H := hc _ fun b => by
  cases b
  · exact hb
  · exact ha
theorem if_dec {p : Prop} [Decidable p] {tt : TT} {ta tb : TS} {D : Ends} {σ : L2.St} {H : Hp} (hc : ∀ QQ : Bool → Hp → Prop, QQ (decide p) H → tt σ H QQ) (ha : p → ta D σ H) (hb : ¬ p → tb D σ H) : tIfS tt ta tb D σ H := hc _ (by
  by_cases h : p
  · simp only [decide_eq_true h, if_true]
    exact ha h
  · simp only [decide_eq_false h]
    exact hb h)
theorem it_any {c A B : Prop} [Decidable c] (a : A) (b : B) : if c then A else B := by
  split
  · exact a
  · exact b
/-! ### data stays -/
theorem sqT_same {K : PySem.W.Frag} {H H' : Hp} {a : Addr} {xs : List V} (h : SqT K H a xs) (e : Same H H') : SqT K H' a xs :=
  h.elim (fun h => .inl (h.elim (fun h => .inl (e _ _ h)) fun ⟨o, h⟩ => .inr ⟨o, e _ _ h⟩)) fun h => .inr h
mutual
theorem dp_same {K : PySem.W.Frag} {H H' : Hp} (e : Same H H') : ∀ (d : PyData) (v : V), Dp K H v d → Dp K H' v d
  | .none, _, h => by cases h; exact .non
  | .bool b, _, h => by cases h; exact .bl _
  | .int i, _, h => by cases h; exact .int _
  | .str x, _, h => by cases h; exact .str _
  | .list ds, _, h => by
    cases h with
    | lst a b => exact .lst (NbF.sqL_same a e) (dpAll_same e ds _ b)
  | .tuple ds, _, h => by
    cases h with
    | tup a b => exact .tup (sqT_same a e) (dpAll_same e ds _ b)
  | .dict _, _, h => by cases h
theorem dpAll_same {K : PySem.W.Frag} {H H' : Hp} (e : Same H H') : ∀ (ds : List PyData) (vs : List V), DpAll K H vs ds → DpAll K H' vs ds
  | [], _, h => by cases h; exact .nil
  | d :: ds, _, h => by
    cases h with
    | cons a b => exact .cons (dp_same e d _ a) (dpAll_same e ds _ b)
end
/-! ### windows as text -/
theorem low_bd (far z B : Int) (n : Str) : ∀ (es : List En) (k : Nat) (l : Int), 0 ≤ l → l ≤ B → (k : Int) + (es.length : Int) ≤ B → 0 ≤ low far (plc z n k es) l ∧ low far (plc z n k es) l ≤ B
  | [], _, l, h0, h1, _ => ⟨h0, h1⟩
  | e :: es, k, l, h0, h1, h2 => by
    rw [List.length_cons] at h2
    rw [plc_cons]
    split
    · rw [low_cons]
      refine low_bd far z B n es (k + 1) _ ?_ ?_ (by omega)
      · split <;> omega
      · split <;> omega
    · exact low_bd far z B n es (k + 1) l h0 h1 (by omega)
theorem high_bd (far z B : Int) (n : Str) : ∀ (es : List En) (k : Nat) (h : Int), 0 ≤ h → h ≤ B → 0 ≤ high far (plc z n k es) h ∧ high far (plc z n k es) h ≤ B
  | [], _, l, h0, h1 => ⟨h0, h1⟩
  | e :: es, k, l, h0, h1 => by
    rw [plc_cons]
    split
    · rw [high_cons]
      refine high_bd far z B n es (k + 1) _ ?_ ?_
      · split <;> omega
      · split <;> omega
    · exact high_bd far z B n es (k + 1) l h0 h1
theorem shw_non : Shw 8 0 .none := ⟨rfl, rfl, by decide +kernel, by decide +kernel, by decide⟩
theorem shw_win (z : Int) (es : List En) (n : Str) (far : Int) (h : es.length ≤ 200) : Shw 404 1 (winD z es n far) := by
  unfold winD
  split
  · exact shw_non.mono (by decide) (by decide)
  · have a := low_bd far z 200 n es 0 0 (Int.le_refl _) (by decide) (by omega)
    have b := high_bd far z 200 n es 0 (es.length : Int) (by omega) (by omega)
    refine shw_tup (W := 201) (n := 2) (fun d hd => ?_) (Nat.le_refl _)
    rcases List.mem_cons.mp hd with rfl | hd
    · exact shw_int (by omega) (by omega)
    · cases List.mem_singleton.mp hd
      exact shw_int (by omega) (by omega)
/-- a list of two such is shown -/
theorem shw_two {W D : Nat} {d : PyData} (h : Shw W D d) (hW : W ≤ 1000) (hD : D ≤ 50) : (PyData.list [d, d]).showable = true ∧ (PyData.list [d, d]).hasDict = false ∧ (PyData.list [d, d]).depth ≤ 60 ∧ (PyData.list [d, d]).shown.length ≤ sizeLine := by
  have s : Shw (2 * (W + 1)) (D + 1) (.list [d, d]) := shw_list (n := 2) (fun x hx => by
    rcases List.mem_cons.mp hx with rfl | hx
    · exact h
    · cases List.mem_singleton.mp hx
      exact h) (Nat.le_refl _)
  exact ⟨s.sh, s.nd, Nat.le_trans s.dp (by omega), s.fits (by omega)⟩
theorem ents_eq {K : PySem.W.Frag} {H : Hp} {a b : Addr} {ns : List Str} {es fs : List En} {Q : VK} (hc : Crew ns) (ha : EntsAt H a es) (hb : EntsAt H b fs) (he : EnsOk ns es) (hf : EnsOk ns fs) (q : Q (.bl (decide (es = fs))) H) : rEqD K (.ref a) (.ref b) H Q := by
  refine ⟨_, _, ha.dp, hb.dp, shaped_ens hc he, shaped_ens hc hf, ?_⟩
  show Q (.bl (PyData.eqvAll (es.map enD) (fs.map enD))) H
  rw [eqv_ens]
  exact q
theorem crew_eq {K : PySem.W.Frag} {H : Hp} {a b : Addr} {ns ms : List Str} {Q : VK} (ha : CrewAt H a ns) (hb : CrewAt H b ms) (he : Crew ns) (hf : Crew ms) (q : Q (.bl (decide (ns = ms))) H) : rEqD K (.ref a) (.ref b) H Q := by
  refine ⟨_, _, ha.dp, hb.dp, shaped_crew he, shaped_crew hf, ?_⟩
  show Q (.bl (PyData.eqvAll (ns.map PyData.str) (ms.map PyData.str))) H
  rw [eqv_strs]
  exact q
theorem ens_of {ns : List Str} {es : List En} (h : es.length ≤ 200) (k : ∀ e ∈ es, e.1 ∈ ns ∧ 0 ≤ e.2) : EnsOk ns es := ⟨h, fun e he => by
  obtain ⟨h1, h2⟩ := k e he
  unfold enOk
  rw [decide_eq_true h1, decide_eq_true h2]
  rfl⟩
theorem sqT_put {K : PySem.W.Frag} {H : Hp} {a L : Addr} {xs ys : List V} {o : HO} (h : SqT K H a xs) (hL : H L = some (.lst ys)) : SqT K (upd H L o) a xs := by
  rcases h with (h | ⟨u, h⟩) | h
  · exact .inl (.inl (upd_keep h (ne_of h hL (by simp))))
  · exact .inl (.inr ⟨u, upd_keep h (ne_of h hL (by simp))⟩)
  · exact .inr h
theorem dp_win {K : PySem.W.Frag} {H : Hp} {L : Addr} {ys : List V} {o : HO} {v : V} {z far : Int} {es : List En} {n : Str} (hL : H L = some (.lst ys)) (h : Dp K H v (winD z es n far)) : Dp K (upd H L o) v (winD z es n far) := by
  unfold winD at h ⊢
  split at h
  · rename_i g
    rw [if_pos g]
    cases h
    exact .non
  · rename_i g
    rw [if_neg g]
    cases h with
    | tup a b =>
      refine .tup (sqT_put a hL) ?_
      cases b with
      | cons b1 b2 =>
        cases b1
        cases b2 with
        | cons b1 b2 =>
          cases b1
          cases b2
          exact .cons (.int _) (.cons (.int _) .nil)
theorem dps_win {K : PySem.W.Frag} {H : Hp} {L : Addr} {ys : List V} {o : HO} {z : Int} {es : List En} (hL : H L = some (.lst ys)) : ∀ {as : List En} {vs : List V}, DpAll K H vs (as.map fun e => winD z es e.1 e.2) → DpAll K (upd H L o) vs (as.map fun e => winD z es e.1 e.2)
  | [], _, h => by cases h; exact .nil
  | a :: as, _, h => by
    cases h with
    | cons x y => exact .cons (dp_win hL x) (dps_win hL y)
theorem dps_snoc {K : PySem.W.Frag} {H : Hp} {v : V} {d : PyData} (h : Dp K H v d) : ∀ {ds : List PyData} {vs : List V}, DpAll K H vs ds → DpAll K H (vs ++ [v]) (ds ++ [d])
  | [], _, k => by cases k; exact .cons h .nil
  | _ :: _, _, k => by
    cases k with
    | cons x y => exact .cons x (dps_snoc h y)
/-! ### a drawn history -/
def HeldOk (H : Hp) (dh : Addr) (z : Int) (j : Nat) : Prop := ∃ kvs : List (Key × V), H dh = some (.dK kvs) ∧ kvs.length ≤ j ∧ ∀ n v, valV kvs (.inr n) = some v → ∃ t o d, v = .ref t ∧ H t = some (.tup [.int o, .int d]) ∧ 0 ≤ o ∧ o ≤ 10 ^ 104 ∧ 0 ≤ d ∧ d ≤ z
structure StoryAt (H0 H : Hp) (fa s tk dh : Addr) (z m : Int) (ns : List Str) (i j : Nat) : Prop where
  st : Stp fa H0 H
  fs : H0 s = none
  ft : H0 tk = none
  fd : H0 dh = none
  nf : s ≠ fa ∧ tk ≠ fa ∧ dh ≠ fa
  nt : s ≠ tk
  en : ∃ ts es, H s = some (.lst (ts.map V.ref)) ∧ Ents H ts es ∧ (es.length : Int) ≤ m ∧ ∀ e ∈ es, e.1 ∈ ns ∧ 0 ≤ e.2
  tk : ∃ xs, H tk = some (.lst xs) ∧ xs.length ≤ i
  hd : HeldOk H dh z j
section
variable {H0 H H' : Hp} {fa s tk dh : Addr} {z m : Int} {ns : List Str} {i j : Nat}
theorem StoryAt.stp (S : StoryAt H0 H fa s tk dh z m ns i j) (e : Stp fa H H') : StoryAt H0 H' fa s tk dh z m ns i j := by
  obtain ⟨ts, es, a1, a2, a3, a4⟩ := S.en
  obtain ⟨xs, b1, b2⟩ := S.tk
  obtain ⟨kvs, c1, c2, c3⟩ := S.hd
  have kt : ∀ t xs, H t = some (.tup xs) → H' t = some (.tup xs) := fun t xs h => e.kp _ _ (ne_tup S.st.fd h) h
  refine ⟨S.st.trans e, S.fs, S.ft, S.fd, S.nf, S.nt, ⟨ts, es, e.kp _ _ S.nf.1 a1, a2.imp kt, a3, a4⟩, ⟨xs, e.kp _ _ S.nf.2.1 b1, b2⟩, ⟨kvs, e.kp _ _ S.nf.2.2 c1, c2, fun n v h => ?_⟩⟩
  obtain ⟨t, o, d, h1, h2, h3⟩ := c3 n v h
  exact ⟨t, o, d, h1, kt _ _ h2, h3⟩
theorem StoryAt.up (S : StoryAt H0 H fa s tk dh z m ns i j) {i' j' : Nat} (hi : i ≤ i') (hj : j ≤ j') : StoryAt H0 H fa s tk dh z m ns i' j' := by
  obtain ⟨xs, b1, b2⟩ := S.tk
  obtain ⟨kvs, c1, c2, c3⟩ := S.hd
  exact ⟨S.st, S.fs, S.ft, S.fd, S.nf, S.nt, S.en, ⟨xs, b1, Nat.le_trans b2 hi⟩, ⟨kvs, c1, Nat.le_trans c2 hj, c3⟩⟩
theorem StoryAt.same (S : StoryAt H0 H fa s tk dh z m ns i j) (e : Same H H') : StoryAt H0 H' fa s tk dh z m ns i j := S.stp (Stp.of e S.st.fd)
theorem StoryAt.take (S : StoryAt H0 H fa s tk dh z m ns i j) {xs : List V} (h : H tk = some (.lst xs)) (v : V) : StoryAt H0 (upd H tk (.lst (xs ++ [v]))) fa s tk dh z m ns (i + 1) j := by
  obtain ⟨ts, es, a1, a2, a3, a4⟩ := S.en
  obtain ⟨xs', b1, b2⟩ := S.tk
  obtain ⟨kvs, c1, c2, c3⟩ := S.hd
  rw [h] at b1
  cases b1
  have kt : ∀ t ys, H t = some (.tup ys) → upd H tk (.lst (xs ++ [v])) t = some (.tup ys) := fun t ys g => upd_keep g (ne_of g h (by simp))
  refine ⟨S.st.mut S.ft S.nf.2.1, S.fs, S.ft, S.fd, S.nf, S.nt, ⟨ts, es, upd_keep a1 S.nt, a2.imp kt, a3, a4⟩, ⟨_, upd_same, by rw [List.length_append, List.length_singleton]; omega⟩, ⟨kvs, upd_keep c1 (ne_of c1 h (by simp)), c2, fun n v h => ?_⟩⟩
  obtain ⟨t, o, d, h1, h2, h3⟩ := c3 n v h
  exact ⟨t, o, d, h1, kt _ _ h2, h3⟩
theorem StoryAt.put (S : StoryAt H0 H fa s tk dh z m ns i j) {kvs : List (Key × V)} (h : H dh = some (.dK kvs)) (n : Str) {t : Addr} {o d : Int} (ht : H t = some (.tup [.int o, .int d])) (ho : 0 ≤ o) (ho1 : o ≤ 10 ^ 104) (hd0 : 0 ≤ d) (hd1 : d ≤ z) :
    StoryAt H0 (upd H dh (.dK (putK kvs (.inr n) (.ref t)))) fa s tk dh z m ns i (j + 1) := by
  obtain ⟨ts, es, a1, a2, a3, a4⟩ := S.en
  obtain ⟨xs', b1, b2⟩ := S.tk
  obtain ⟨kv2, c1, c2, c3⟩ := S.hd
  rw [h] at c1
  cases c1
  have kt : ∀ t ys, H t = some (.tup ys) → upd H dh (.dK (putK kvs (.inr n) (.ref t))) t = some (.tup ys) := fun t ys g => upd_keep g (ne_of g h (by simp))
  have kt' : ∀ t' ys, H t' = some (.tup ys) → upd H dh (.dK (putK kvs (.inr n) (.ref t))) t' = some (.tup ys) := fun t' ys g => upd_keep g (ne_of g h (by simp))
  refine ⟨S.st.mut S.fd S.nf.2.2, S.fs, S.ft, S.fd, S.nf, S.nt, ⟨ts, es, upd_keep a1 (ne_of a1 h (by simp)), a2.imp kt', a3, a4⟩, ⟨_, upd_keep b1 (ne_of b1 h (by simp)), b2⟩, ⟨_, upd_same, Nat.le_trans (putK_le _ _ _) (by omega), fun n' v hv => ?_⟩⟩
  rw [valV_put] at hv
  by_cases g : (Sum.inr n' : Key) = .inr n
  · rw [if_pos g] at hv
    cases hv
    exact ⟨t, o, d, rfl, kt' _ _ ht, ho, ho1, hd0, hd1⟩
  · rw [if_neg g] at hv
    obtain ⟨t', o', d', h1, h2, h3⟩ := c3 n' v hv
    exact ⟨t', o', d', h1, kt' _ _ h2, h3⟩
theorem StoryAt.show (S : StoryAt H0 H fa s tk dh z m ns i j) {xs : List V} (h : H s = some (.lst xs)) (hl : (xs.length : Int) < m) {t : Addr} {e : En} (ht : H t = some (.tup [.str e.1, .int e.2])) (he : e.1 ∈ ns) (h0 : 0 ≤ e.2) :
    StoryAt H0 (upd H s (.lst (xs ++ [.ref t]))) fa s tk dh z m ns i j := by
  obtain ⟨ts, es, a1, a2, a3, a4⟩ := S.en
  obtain ⟨xs', b1, b2⟩ := S.tk
  obtain ⟨kvs, c1, c2, c3⟩ := S.hd
  rw [h] at a1
  cases a1
  have kt : ∀ t' ys, H t' = some (.tup ys) → upd H s (.lst (ts.map V.ref ++ [.ref t])) t' = some (.tup ys) := fun t' ys g => upd_keep g (ne_of g h (by simp))
  have ln := a2.len
  rw [List.length_map] at hl
  refine ⟨S.st.mut S.fs S.nf.1, S.fs, S.ft, S.fd, S.nf, S.nt, ⟨ts ++ [t], es ++ [e], by rw [upd_same, List.map_append]; rfl, Ents.app (kt _ _ ht) (a2.imp kt), by rw [List.length_append, List.length_singleton]; omega, fun x hx => ?_⟩, ⟨_, upd_keep b1 S.nt.symm, b2⟩, ⟨kvs, upd_keep c1 (ne_of c1 h (by simp)), c2, fun n v hv => ?_⟩⟩
  · rcases List.mem_append.mp hx with g | g
    · exact a4 x g
    · rw [List.mem_singleton.mp g]
      exact ⟨he, h0⟩
  · obtain ⟨t', o, d, h1, h2, h3⟩ := c3 n v hv
    exact ⟨t', o, d, h1, kt _ _ h2, h3⟩
end
theorem mulW_ok {i j : Int} (h0 : 0 ≤ i) (h : i ≤ 10 ^ 200) (g0 : 0 ≤ j) (g : j ≤ 10 ^ 200) : CMulW i j := by
  have a : ∀ n : Nat, n ≤ 10 ^ 200 → n.log2 < 700 := fun n hn => by
    by_cases h0 : n = 0
    · rw [h0]; decide
    · exact (Nat.log2_lt h0).mpr (Nat.lt_of_le_of_lt hn (by decide))
  have b1 := a i.natAbs (by omega)
  have b2 := a j.natAbs (by omega)
  unfold CMulW
  omega
def sp_law_story0 (_ : PySem.W.Frag) : Sp := fun vs H Q _ => ∃ (fa c : Addr) (z m f : Int) (ns : List Str), vs = [.ref fa, .int z, .ref c, .int m, .int f] ∧ Feed H fa ∧ CrewAt H c ns ∧ Crew ns ∧ SizeOk z ∧ 0 ≤ m ∧ m ≤ 200 ∧ 0 < f ∧ f ≤ 10 ^ 100 ∧
  ∀ r s t es H', H r = none → Stp fa H H' → H' r = some (.lst [.ref s, .ref t]) → EntsAt H' s es → (es.length : Int) ≤ m → (∀ e ∈ es, e.1 ∈ ns ∧ 0 ≤ e.2) → Q (.ref r) H'
end NbZ

set_option Elab.async false
set_option linter.all false
set_option maxRecDepth 100000
set_option maxHeartbeats 4000000
/-! sorted(..) of a dict with whole numbers as keys, 64 and more too. -/
namespace NbY
open PySem PySem.Spec PySem.Calls PyProof.Rows L2 Nb NbE NbS NbF NbP NbK NbL NbU NbX NbW NbV NbZ
/-- sorted(d) -/
def rSortDI : List V → Hp → VK → Prop := fun xs H Q => ∃ (a : Addr) (kvs : List (Key × V)) (ks : List Int), xs = [.ref a] ∧ Rd H a (.dK kvs) ∧ kvs.map (·.1) = ks.map Sum.inl ∧ ks.Nodup ∧ ks.length ≤ 4000 ∧
    ∀ (ys : List Int) (p : Addr), ys.Perm ks → ys.Pairwise (· < ·) → H p = none → Q (.ref p) (upd H p (.lst (ys.map V.int)))
theorem cr_sortDI {X : Cx} (hcalm : X.calm = true) : CallR X (.builtin "sorted") rSortDI := by
  intro pins s σ H xs us Q I r q
  obtain ⟨a, kvs, ks, ex, hd, hks, nd, few, q⟩ := q
  subst ex
  obtain ⟨u, eu, rx⟩ := vals1 r
  subst eu
  cases rx
  obtain ⟨z, lo, vs, rel, dd⟩ := dk_rd I.hok hd
  obtain ⟨ep, hat⟩ := dd.dictAt
  have hkeys : vs.map (·.1) = ks.map Sum.inl := rel.keys.symm.trans hks
  have hl : vs.length = ks.length := by
    have e := congrArg List.length hkeys
    rw [List.length_map, List.length_map] at e
    exact e
  have h16 : vs.length ≤ sizeLine := by rw [hl]; exact sz_le (by omega)
  refine Calls.call_function_entry PyProof.Rows.kind_sorted PyProof.Rows.plain_sorted PyProof.Rows.entry_sorted (PyProof.Rows.args_sorted1 _) ?_
  unfold Builtin.«sorted»
  refine wpAny_bind (m := checkCount "sorted" 1 1 _) (wpAny_pure ?_)
  refine wpAny_bind (PySem.W.kdu_collect (A := X.A.in1) (PySem.W.kdl_dict (knd := mixKind X.prog X.w) (kvs := vs) (ep := ep) lo) (I.ok.hd hcalm) hat h16 fun h' tk acc hk hacc => ?_)
  have hal : acc.toList.length = ks.length := by rw [Array.length_toList, hacc.1, hl]
  have hS : IntsAre acc.toList ks := ints_each hal fun j v e => by
    obtain ⟨k, x, e1, e2⟩ := hacc.2 j v (by rw [← Array.getElem?_toList]; exact e)
    have e3 : (vs.map (·.1))[j]? = some k := by rw [List.getElem?_map, e1]; rfl
    rw [hkeys, List.getElem?_map] at e3
    cases e4 : ks[j]? with
    | none => rw [e4] at e3; cases e3
    | some y =>
      rw [e4] at e3
      have e5 : Sum.inl y = k := Option.some.inj e3
      subst e5
      rcases keyIs_shape (show keyIs (Sum.inl y) v = true from e2) with ⟨i, t, ek, ev⟩ | ⟨z, t, ek, ev⟩
      · cases ek
        exact ⟨y, t, rfl, ev⟩
      · cases ek
  have I1 : Inv X pins σ H { s with heap := h', toks := tk } := I.kept hk
  refine wpAny_bind (wpAny_newList ?_ (by rw [hal]; exact sz_le (by omega)))
  have hoL : (h'.push (seqObj "list" acc.toList.toArray 0)).get? h'.objs.size = some (seqObj "list" acc.toList.toArray 0) := Heap.get?_push_size _ rfl
  show wpAny _ _ _ _ _ { s with heap := h'.push (seqObj "list" acc.toList.toArray 0), toks := tk }
  refine wpAny_bind (wpAny_holding (wpAny_call_entry slot_list_sort ⟨_, hoL, rfl⟩ entry_list_sort (SrtO.list_sort_ord SrtO.swo_int hoL (by rw [hal]; exact sz_le (by omega)) (fun h2 => SrtO.ints_sortable hS h2) fun out b1 b2 => ⟨_, rfl, ?_⟩) (args_list_sort _)))
  obtain ⟨a1, a2, a3⟩ := SrtO.ints_out hS b1 b2
  obtain ⟨e', he'⟩ := sortedHeap_at (vs := acc.toList) (out := out.toArray) hoL
  have hlen : ((out.map SrtO.iv).map V.int).length ≤ sizeLine := by
    rw [List.length_map, a2.length_eq]
    exact sz_le (by omega)
  refine wpAny_pure ⟨_, rfl, .ref h'.objs.size, upd H h'.objs.size (.lst ((out.map SrtO.iv).map V.int)), I1.laid (t' := tk) (fun b u e => ?_) (Nat.le_refl _)
    (show ObjOk X.prog X.w _ _ _ (.lst ((out.map SrtO.iv).map V.int)) from ⟨hlen, out, e', vals_of_ints a1, he'⟩), rfl, q _ _ a2 (lt_of_le_nodup _ a3 (a2.nodup_iff.mpr nd)) (I1.hok.fresh (Nat.le_refl _))⟩
  have hb : b < h'.objs.size := Heap.lt_size e
  rw [PyProof.Rows.sortedHeap_old (Nat.ne_of_lt hb) (by rw [size_push']; exact Nat.lt_succ_of_lt hb)]
  exact Heap.get?_push_of_some _ e
end NbY

set_option Elab.async false
set_option linter.all false
set_option maxRecDepth 100000
set_option maxHeartbeats 4000000
/-! What the walks of the program answer, as functions of what a log holds; the promises of its defs. -/
namespace NbM
open PySem PySem.Spec PyProof.Rows L2 Nb NbE NbS NbF NbP NbK NbL NbX NbW NbZ
def winO (z : Int) (es : List En) (n : Str) (q : Int) : Option (Int × Int) := if (hold z es q).any (fun x => x != n) then none else some (low q (plc z n 0 es) 0, high q (plc z n 0 es) (es.length : Int))
theorem winD_eq (z : Int) (es : List En) (n : Str) (q : Int) : winD z es n q = duD (winO z es n q) := by
  unfold winD winO
  split <;> rfl
/-- the windows of all servers that have one -/
def wins (z : Int) (es : List En) (ns : List Str) (q : Int) : List (Int × Int) := ns.filterMap fun n => winO z es n q
def p2D (p : Int × Int) : PyData := .tuple [.int p.1, .int p.2]
/-- the least slot from s on in some window -/
def slotF (s : Int) : List (Int × Int) → Int → Int
  | [], f => f
  | p :: r, f => slotF s r (if max p.1 s ≤ p.2 then min f (max p.1 s) else f)
/-- the greatest slot up to s in some window -/
def slotU (s : Int) : List (Int × Int) → Int → Int
  | [], f => f
  | p :: r, f => slotU s r (if p.1 ≤ min p.2 s then max f (min p.2 s) else f)
def sFrom (z : Int) (ns : List Str) (es : List En) (q s : Int) : Int := slotF s (wins z es ns q) ((es.length : Int) + 1)
def sUpTo (z : Int) (ns : List Str) (es : List En) (q s : Int) : Int := slotU s (wins z es ns q) (-1)
/-- the blocks that begin a span -/
def startsG : Int → List Int → List Int
  | _, [] => []
  | f, b :: r => (if f < b then [f, b] else [b]) ++ startsG (b + 1) r
def walkE (f : Int → Int → Int) (m : Int) : Int → List Int → List Int
  | _, [] => []
  | s, q :: r => if m < f q s then [f q s] else f q s :: walkE f m (f q s) r
def walkL (f : Int → Int → Int) : Int → List Int → List Int
  | _, [] => []
  | s, q :: r => f q s :: walkL f (f q s) r
def pushG : Int → List (Int × Int) → List (Int × Int)
  | _, [] => []
  | f, p :: r => (if f < p.2 then [p] else []) ++ pushG p.2 r
/-! ### the blocks that are seen -/
def insI (q : Int) : List Int → List Int
  | [] => [q]
  | y :: r => if q < y then q :: y :: r else if q = y then y :: r else y :: insI q r
def seen (z : Int) (es : List En) : List Int := es.foldr (fun e r => insI (e.2 / z) r) []
theorem mem_insI (q x : Int) : ∀ ys : List Int, x ∈ insI q ys ↔ x = q ∨ x ∈ ys
  | [] => by simp [insI]
  | y :: r => by
    have ih := mem_insI q x r
    unfold insI
    split
    · simp
    · split
      · rename_i h
        subst h
        simp
      · simp only [List.mem_cons, ih]
        constructor
        · rintro (h | h | h)
          · exact .inr (.inl h)
          · exact .inl h
          · exact .inr (.inr h)
        · rintro (h | h | h)
          · exact .inr (.inl h)
          · exact .inl h
          · exact .inr (.inr h)
theorem lt_insI (q : Int) : ∀ {ys : List Int}, ys.Pairwise (· < ·) → (insI q ys).Pairwise (· < ·)
  | [], _ => by simp [insI]
  | y :: r, h => by
    have h1 := List.pairwise_cons.mp h
    have ih := lt_insI q h1.2
    unfold insI
    split
    · rename_i g
      refine List.pairwise_cons.mpr ⟨fun x hx => ?_, h⟩
      rcases List.mem_cons.mp hx with rfl | hx
      · exact g
      · exact Int.lt_trans g (h1.1 x hx)
    · split
      · exact h
      · rename_i g1 g2
        refine List.pairwise_cons.mpr ⟨fun x hx => ?_, ih⟩
        rcases (mem_insI q x r).mp hx with rfl | hx
        · omega
        · exact h1.1 x hx
theorem seen_cons (z : Int) (e : En) (es : List En) : seen z (e :: es) = insI (e.2 / z) (seen z es) := rfl
theorem mem_seen (z x : Int) : ∀ es : List En, x ∈ seen z es ↔ ∃ e ∈ es, e.2 / z = x
  | [] => by simp [seen]
  | e :: es => by
    rw [seen_cons, mem_insI, mem_seen z x es]
    constructor
    · rintro (h | ⟨e', h1, h2⟩)
      · exact ⟨e, List.mem_cons_self, h.symm⟩
      · exact ⟨e', List.mem_cons_of_mem _ h1, h2⟩
    · rintro ⟨e', h1, h2⟩
      rcases List.mem_cons.mp h1 with rfl | h1
      · exact .inl h2.symm
      · exact .inr ⟨e', h1, h2⟩
theorem lt_seen (z : Int) : ∀ es : List En, (seen z es).Pairwise (· < ·)
  | [] => List.Pairwise.nil
  | e :: es => lt_insI _ (lt_seen z es)
theorem eq_of_lt : ∀ {xs ys : List Int}, xs.Pairwise (· < ·) → ys.Pairwise (· < ·) → (∀ q, q ∈ xs ↔ q ∈ ys) → xs = ys
  | [], [], _, _, _ => rfl
  | [], y :: ys, _, _, h => absurd ((h y).mpr List.mem_cons_self) (by simp)
  | x :: xs, [], _, _, h => absurd ((h x).mp List.mem_cons_self) (by simp)
  | x :: xs, y :: ys, hx, hy, h => by
    have h1 := List.pairwise_cons.mp hx
    have h2 := List.pairwise_cons.mp hy
    have e : x = y := by
      rcases List.mem_cons.mp ((h x).mp List.mem_cons_self) with e | m
      · exact e
      · rcases List.mem_cons.mp ((h y).mpr List.mem_cons_self) with e | m'
        · exact e.symm
        · have := h1.1 _ m'
          have := h2.1 _ m
          omega
    subst e
    rw [eq_of_lt h1.2 h2.2 fun q => ?_]
    constructor
    · intro hq
      rcases List.mem_cons.mp ((h q).mp (List.mem_cons_of_mem _ hq)) with e | m
      · have := h1.1 q hq
        omega
      · exact m
    · intro hq
      rcases List.mem_cons.mp ((h q).mpr (List.mem_cons_of_mem _ hq)) with e | m
      · have := h2.1 q hq
        omega
      · exact m
theorem hold_ne {z q : Int} {es : List En} : hold z es q ≠ [] ↔ ∃ e ∈ es, e.2 / z = q := by
  unfold hold
  rw [ne_eq, List.map_eq_nil_iff, List.filter_eq_nil_iff]
  constructor
  · intro h
    by_cases g : ∃ e ∈ es, e.2 / z = q
    · exact g
    · exact absurd (fun e he => by simpa using fun k => g ⟨e, he, k⟩) h
  · rintro ⟨e, h1, h2⟩ h
    exact h e h1 (decide_eq_true h2)
/-- the keys of the holders, sorted -/
theorem Dicts.seen {H : Hp} {dh dp : Addr} {z : Int} {ns : List Str} {es es' : List En} {own : Addr → Option (Int ⊕ Str)} (D : Dicts H dh dp z ns es es' own) :
    ∃ (kvs : List (Key × V)) (ks : List Int), H dh = some (.dK kvs) ∧ kvs.map (·.1) = ks.map Sum.inl ∧ ks.Nodup ∧ ks.length ≤ es.length ∧ ∀ ys : List Int, ys.Perm ks → ys.Pairwise (· < ·) → ys = NbM.seen z es := by
  obtain ⟨kvs, h1, h2, h3⟩ := D.hd
  obtain ⟨⟨ks, g1, g2⟩, g3⟩ := D.ky kvs h1
  refine ⟨kvs, ks, h1, g1, g2, by have := congrArg List.length g1; rw [List.length_map, List.length_map] at this; omega, fun ys hp hl => eq_of_lt hl (lt_seen z es) fun q => ?_⟩
  rw [hp.mem_iff, mem_seen]
  have hk : q ∈ ks ↔ valV kvs (.inl q) ≠ none := by
    have h0 : (valV kvs (.inl q) ≠ none) ↔ (valV kvs (.inl q)).isSome = true := by
      cases valV kvs (.inl q) <;> simp
    rw [h0, ← valV_any, List.any_eq_true]
    constructor
    · intro h
      have hm : (Sum.inl q : Key) ∈ kvs.map (·.1) := by
        rw [g1]
        exact List.mem_map_of_mem h
      obtain ⟨kv, a, b⟩ := List.mem_map.mp hm
      exact ⟨kv, a, decide_eq_true b⟩
    · rintro ⟨kv, a, b⟩
      have hm : (Sum.inl q : Key) ∈ ks.map Sum.inl := by
        rw [← g1, ← of_decide_eq_true b]
        exact List.mem_map_of_mem a
      obtain ⟨x, c, d⟩ := List.mem_map.mp hm
      cases d
      exact c
  rw [hk]
  refine ⟨g3 q, fun hm hn => ?_⟩
  rcases h3 q with ⟨a, b⟩ | ⟨a, b, _⟩
  · exact hold_ne.mpr hm b
  · rw [b] at hn
    cases hn
/-! ### promises -/
def starts (z : Int) (es : List En) : List Int := startsG 0 (seen z es)
def earl (z : Int) (ns : List Str) (es : List En) : List Int := walkE (sFrom z ns es) (es.length : Int) 0 (starts z es)
def late (z : Int) (ns : List Str) (es : List En) : List Int := (walkL (sUpTo z ns es) (es.length : Int) (starts z es).reverse).reverse
def sp_Sight_windows_of (K : PySem.W.Frag) : Sp := fun vs H Q _ => ∃ (p : Addr) (z : Int) (ns : List Str) (es : List En) (q : Int), vs = [.ref p, .int q] ∧ SightAt K H p z ns es ∧ ∀ a vs' H', H a = none → Same H H' → H' a = some (.lst vs') → DpAll K H' vs' ((wins z es ns q).map p2D) → Q (.ref a) H'
def sp_Sight_slot_from (K : PySem.W.Frag) : Sp := fun vs H Q _ => ∃ (p : Addr) (z : Int) (ns : List Str) (es : List En) (q s : Int), vs = [.ref p, .int q, .int s] ∧ SightAt K H p z ns es ∧ ∀ H', Same H H' → Q (.int (sFrom z ns es q s)) H'
def sp_Sight_slot_up_to (K : PySem.W.Frag) : Sp := fun vs H Q _ => ∃ (p : Addr) (z : Int) (ns : List Str) (es : List En) (q s : Int), vs = [.ref p, .int q, .int s] ∧ SightAt K H p z ns es ∧ ∀ H', Same H H' → Q (.int (sUpTo z ns es q s)) H'
/-- a new list of whole numbers -/
def NewInts (H : Hp) (Q : VK) (xs : List Int) : Prop := ∀ a H', H a = none → Same H H' → H' a = some (.lst (xs.map V.int)) → Q (.ref a) H'
def sp_Sight_span_starts (K : PySem.W.Frag) : Sp := fun vs H Q _ => ∃ (p : Addr) (z : Int) (ns : List Str) (es : List En), vs = [.ref p] ∧ SightAt K H p z ns es ∧ NewInts H Q (starts z es)
def sp_Sight_earliest_slots (K : PySem.W.Frag) : Sp := fun vs H Q _ => ∃ (p : Addr) (z : Int) (ns : List Str) (es : List En), vs = [.ref p] ∧ SightAt K H p z ns es ∧ NewInts H Q (earl z ns es)
def sp_Sight_latest_slots (K : PySem.W.Frag) : Sp := fun vs H Q _ => ∃ (p : Addr) (z : Int) (ns : List Str) (es : List En), vs = [.ref p] ∧ SightAt K H p z ns es ∧ NewInts H Q (late z ns es)
def sp_Sight_span_index (K : PySem.W.Frag) : Sp := fun vs H Q _ => ∃ (p : Addr) (z : Int) (ns : List Str) (es : List En) (q : Int), vs = [.ref p, .int q] ∧ SightAt K H p z ns es ∧ ∀ H', Same H H' → Q (.int ((((starts z es).filter fun b => decide (b ≤ q)).length : Int) - 1)) H'
/-! ### data that holds no list stays when a list changes -/
theorem dp_du {K : PySem.W.Frag} {H : Hp} {L : Addr} {ys : List V} {o : HO} {v : V} {w : Option (Int × Int)} (hL : H L = some (.lst ys)) (h : Dp K H v (duD w)) : Dp K (upd H L o) v (duD w) := by
  cases w with
  | none =>
    cases h
    exact .non
  | some p =>
    obtain ⟨i, j⟩ := p
    cases h with
    | tup a b =>
      refine .tup (sqT_put a hL) ?_
      cases b with
      | cons b1 b2 =>
        cases b1
        cases b2 with
        | cons b1 b2 =>
          cases b1
          cases b2
          exact .cons (.int _) (.cons (.int _) .nil)
theorem dps_du {K : PySem.W.Frag} {H : Hp} {L : Addr} {ys : List V} {o : HO} (hL : H L = some (.lst ys)) : ∀ {ws : List (Option (Int × Int))} {vs : List V}, DpAll K H vs (ws.map duD) → DpAll K (upd H L o) vs (ws.map duD)
  | [], _, h => by cases h; exact .nil
  | a :: as, _, h => by
    cases h with
    | cons x y => exact .cons (dp_du hL x) (dps_du hL y)
theorem dps_pr {K : PySem.W.Frag} {H : Hp} {L : Addr} {ys : List V} {o : HO} (hL : H L = some (.lst ys)) {ws : List (Int × Int)} {vs : List V} (h : DpAll K H vs (ws.map p2D)) : DpAll K (upd H L o) vs (ws.map p2D) := by
  have e : ws.map p2D = (ws.map some).map duD := by
    rw [List.map_map]
    rfl
  rw [e] at h ⊢
  exact dps_du hL h
theorem dps_len {K : PySem.W.Frag} {H : Hp} : ∀ {ds : List PyData} {vs : List V}, DpAll K H vs ds → vs.length = ds.length
  | [], _, h => by cases h; rfl
  | _ :: _, _, h => by
    cases h with
    | cons x y => rw [List.length_cons, List.length_cons, dps_len y]
theorem dps_get {K : PySem.W.Frag} {H : Hp} : ∀ {ds : List PyData} {vs : List V} {i : Nat} {v : V}, DpAll K H vs ds → vs[i]? = some v → ∃ d, ds[i]? = some d ∧ Dp K H v d
  | [], _, i, v, h, g => by cases h; simp at g
  | d :: _, _, 0, v, h, g => by
    cases h with
    | cons x y =>
      simp at g
      subst g
      exact ⟨d, rfl, x⟩
  | _ :: _, _, i + 1, v, h, g => by
    cases h with
    | cons x y =>
      obtain ⟨d, h1, h2⟩ := dps_get y (by simpa using g)
      exact ⟨d, by simpa using h1, h2⟩
/-- a pair of whole numbers, unpacked -/
theorem dp_pr {K : PySem.W.Frag} {H : Hp} {v : V} {p : Int × Int} (h : Dp K H v (p2D p)) : ∃ t, v = .ref t ∧ SqT K H t [.int p.1, .int p.2] := by
  cases h with
  | tup a b =>
    cases b with
    | cons b1 b2 =>
      cases b1
      cases b2 with
      | cons b1 b2 =>
        cases b1
        cases b2
        exact ⟨_, rfl, a⟩
theorem fsS_noM {m : Str} (h1 : (m == ("names" : Str)) = false) (h2 : (m == ("last_slot" : Str)) = false) (h3 : (m == ("holders" : Str)) = false) (h4 : (m == ("places" : Str)) = false) (nl : Addr) (k : Int) (dh dp : Addr) : (fsS nl k dh dp).lookup m = none := by
  unfold fsS
  rw [List.lookup_cons, h1, List.lookup_cons, h2, List.lookup_cons, h3, List.lookup_cons, h4]
  rfl
theorem drop_one {α : Type} {xs : List α} {i : Nat} {x : α} (h : xs[i]? = some x) : xs.drop i = x :: xs.drop (i + 1) := by
  obtain ⟨hl, e⟩ := List.getElem?_eq_some_iff.mp h
  rw [List.drop_eq_getElem_cons hl, e]
theorem startsG_cons (f b : Int) (r : List Int) : startsG f (b :: r) = (if f < b then [f, b] else [b]) ++ startsG (b + 1) r := rfl
theorem walkE_cons (f : Int → Int → Int) (m s q : Int) (r : List Int) : walkE f m s (q :: r) = if m < f q s then [f q s] else f q s :: walkE f m (f q s) r := rfl
theorem walkL_cons (f : Int → Int → Int) (s q : Int) (r : List Int) : walkL f s (q :: r) = f q s :: walkL f (f q s) r := rfl
theorem slotF_cons (s : Int) (p : Int × Int) (r : List (Int × Int)) (f : Int) : slotF s (p :: r) f = slotF s r (if max p.1 s ≤ p.2 then min f (max p.1 s) else f) := rfl
theorem slotU_cons (s : Int) (p : Int × Int) (r : List (Int × Int)) (f : Int) : slotU s (p :: r) f = slotU s r (if p.1 ≤ min p.2 s then max f (min p.2 s) else f) := rfl
theorem gt_max (a b : Int) : (if b > a then b else a) = max a b := by
  split <;> omega
theorem lt_min (a b : Int) : (if b < a then b else a) = min a b := by
  split <;> omega
theorem len_wins (z : Int) (es : List En) (ns : List Str) (q : Int) : (wins z es ns q).length ≤ ns.length := List.length_filterMap_le _ _
theorem len_startsG : ∀ (xs : List Int) (f : Int), (startsG f xs).length ≤ 2 * xs.length
  | [], _ => Nat.le_refl _
  | b :: r, f => by
    have ih := len_startsG r (b + 1)
    rw [startsG_cons, List.length_append, List.length_cons]
    split <;> simp <;> omega
theorem len_insI (q : Int) : ∀ ys : List Int, (insI q ys).length ≤ ys.length + 1
  | [] => Nat.le_refl _
  | y :: r => by
    have ih := len_insI q r
    unfold insI
    split
    · simp
    · split
      · simp
      · simp only [List.length_cons]
        omega
theorem len_seen (z : Int) : ∀ es : List En, (seen z es).length ≤ es.length
  | [] => Nat.le_refl _
  | e :: es => by
    have := len_insI (e.2 / z) (seen z es)
    have := len_seen z es
    rw [seen_cons, List.length_cons]
    omega
theorem len_starts (z : Int) (es : List En) : (starts z es).length ≤ 2 * es.length := by
  have := len_startsG (seen z es) 0
  have := len_seen z es
  unfold starts
  omega
/-! ### two entries that bar one another -/
def twO : List En → List En → Option (Nat × Nat)
  | _, [] => none
  | pre, e :: r => match pre.findIdx? (fun x => decide (x.2 = e.2)) with
    | some i => some (i, pre.length)
    | none => twO (pre ++ [e]) r
def shO (z : Int) : List En → List En → Option (Nat × Nat)
  | _, [] => none
  | pre, e :: r => match pre.findIdx? (fun x => decide (x.2 / z = e.2 / z)) with
    | some i => if (pre.getD i e).1 = e.1 then shO z (pre ++ [e]) r else some (i, pre.length)
    | none => shO z (pre ++ [e]) r
/-- the last entry of a server -/
def lastI (n : Str) : List En → Nat → Option Nat
  | [], _ => none
  | e :: r, k => match lastI n r (k + 1) with
    | some i => some i
    | none => if e.1 = n then some k else none
def baO : List En → List En → Option (Nat × Nat)
  | _, [] => none
  | pre, e :: r => match lastI e.1 pre 0 with
    | some i => if e.2 < (pre.getD i e).2 then some (i, pre.length) else baO (pre ++ [e]) r
    | none => baO (pre ++ [e]) r
def duoD (w : Str) : Option (Nat × Nat) → PyData
  | none => .none
  | some p => .tuple [.str w, .int (p.1 : Int), .int (p.2 : Int)]
def barD (z : Int) (es : List En) : PyData := match twO [] es with
  | some p => duoD "twice" (some p)
  | none => match shO z [] es with
    | some p => duoD "shared" (some p)
    | none => duoD "back" (baO [] es)
def push (z : Int) (ns : List Str) (es : List En) : List (Int × Int) := pushG 0 ((starts z es).zip (earl z ns es))
def lastS (xs : List (Int × Int)) : Int := (xs.getLast?.map (·.2)).getD 0
def pushedD (z : Int) (ns : List Str) (es : List En) : PyData := if (es.length : Int) < lastS (push z ns es) then .tuple [.str "pushed", .list ((push z ns es).map p2D)] else .none
def obsD (z : Int) (ns : List Str) (es : List En) : PyData := match barD z es with
  | .none => pushedD z ns es
  | d => d
theorem lastI_cons (n : Str) (e : En) (r : List En) (k : Nat) : lastI n (e :: r) k = match lastI n r (k + 1) with
    | some i => some i
    | none => if e.1 = n then some k else none := rfl
theorem lastI_app (n : Str) (e : En) : ∀ (pre : List En) (k : Nat), lastI n (pre ++ [e]) k = if e.1 = n then some (k + pre.length) else lastI n pre k
  | [], k => rfl
  | x :: r, k => by
    have ih := lastI_app n e r (k + 1)
    show lastI n (x :: (r ++ [e])) k = _
    rw [lastI_cons, lastI_cons, ih]
    by_cases h : e.1 = n
    · rw [if_pos h, if_pos h, List.length_cons]
      simp only [Option.some.injEq]
      omega
    · rw [if_neg h, if_neg h]
theorem lastI_lt (n : Str) : ∀ (pre : List En) (k i : Nat), lastI n pre k = some i → k ≤ i ∧ i < k + pre.length
  | [], _, _, h => nomatch h
  | x :: r, k, i, h => by
    rw [lastI_cons] at h
    rw [List.length_cons]
    cases g : lastI n r (k + 1) with
    | some j =>
      rw [g] at h
      simp only [Option.some.injEq] at h
      have := lastI_lt n r (k + 1) j g
      omega
    | none =>
      rw [g] at h
      simp only at h
      split at h
      · cases h
        omega
      · cases h
/-! ### steps, as they lie -/
inductive StepsAt (H : Hp) : List V → List (Int × Int) → Prop where
  | nil : StepsAt H [] []
  | cons {y : V} {p : Int × Int} {ys : List V} {st : List (Int × Int)} : (∃ t, y = .ref t ∧ H t = some (.tup [.int p.1, .int p.2])) → StepsAt H ys st → StepsAt H (y :: ys) (p :: st)
theorem StepsAt.same {H H' : Hp} (e : Same H H') : ∀ {ys : List V} {st : List (Int × Int)}, StepsAt H ys st → StepsAt H' ys st
  | _, _, .nil => .nil
  | _, _, .cons ⟨t, h1, h2⟩ r => .cons ⟨t, h1, e _ _ h2⟩ (StepsAt.same e r)
theorem StepsAt.len {H : Hp} : ∀ {ys : List V} {st : List (Int × Int)}, StepsAt H ys st → ys.length = st.length
  | _, _, .nil => rfl
  | _, _, .cons _ r => by rw [List.length_cons, List.length_cons, StepsAt.len r]
theorem StepsAt.get {H : Hp} : ∀ {ys : List V} {st : List (Int × Int)} {i : Nat} {y : V}, StepsAt H ys st → ys[i]? = some y → ∃ t p, y = .ref t ∧ st[i]? = some p ∧ H t = some (.tup [.int p.1, .int p.2])
  | _, _, i, y, .nil, h => by simp at h
  | _, _, 0, y, .cons ⟨t, h1, h2⟩ r, h => by
    simp at h
    subst h
    exact ⟨t, _, h1, rfl, h2⟩
  | _, _, i + 1, y, .cons _ r, h => by
    obtain ⟨t, p, h1, h2, h3⟩ := StepsAt.get r (by simpa using h)
    exact ⟨t, p, h1, by simpa using h2, h3⟩
theorem StepsAt.dp {K : PySem.W.Frag} {H : Hp} : ∀ {ys : List V} {st : List (Int × Int)}, StepsAt H ys st → DpAll K H ys (st.map p2D)
  | _, _, .nil => .nil
  | _, _, .cons ⟨t, h1, h2⟩ r => by
    subst h1
    exact .cons (.tup (SqT.of h2) (.cons (.int _) (.cons (.int _) .nil))) (StepsAt.dp r)
theorem StepsAt.last {H : Hp} : ∀ {ys : List V} {st : List (Int × Int)} {p : Int × Int}, StepsAt H ys st → st.getLast? = some p → ∃ us t, ys = us ++ [.ref t] ∧ H t = some (.tup [.int p.1, .int p.2])
  | _, _, _, .nil, h => by cases h
  | _, _, p, .cons (p := p1) (st := []) ⟨t, h1, h2⟩ .nil, h => by
    subst h1
    have : p1 = p := by simpa using h
    subst this
    exact ⟨[], t, rfl, h2⟩
  | _, _, p, .cons (y := y) (st := x :: st) _ r, h => by
    rw [List.getLast?_cons_cons] at h
    obtain ⟨us, t, h1, h2⟩ := StepsAt.last r h
    exact ⟨y :: us, t, by rw [h1]; rfl, h2⟩
theorem StepsAt.first {H : Hp} {ys : List V} {st : List (Int × Int)} (h : StepsAt H ys st) (hne : st ≠ []) : ∃ t p, ys[0]? = some (.ref t) ∧ st[0]? = some p ∧ H t = some (.tup [.int p.1, .int p.2]) := by
  cases h with
  | nil => exact absurd rfl hne
  | cons h r =>
    obtain ⟨t, rfl, h2⟩ := h
    exact ⟨t, _, rfl, rfl, h2⟩
theorem StepsAt.snoc {H : Hp} {t : Addr} {p : Int × Int} (h : H t = some (.tup [.int p.1, .int p.2])) : ∀ {ys : List V} {st : List (Int × Int)}, StepsAt H ys st → StepsAt H (ys ++ [.ref t]) (st ++ [p])
  | _, _, .nil => .cons ⟨t, rfl, h⟩ .nil
  | _, _, .cons k r => .cons k (StepsAt.snoc h r)
theorem StepsAt.mut {H : Hp} {L : Addr} {xs : List V} {o : HO} (hL : H L = some (.lst xs)) : ∀ {ys : List V} {st : List (Int × Int)}, StepsAt H ys st → StepsAt (upd H L o) ys st
  | _, _, .nil => .nil
  | _, _, .cons ⟨t, h1, h2⟩ r => .cons ⟨t, h1, upd_keep h2 (ne_of h2 hL (by simp))⟩ (StepsAt.mut hL r)
/-- nothing, or a new tuple that lies as its data tell, its list new -/
def Own (H0 H : Hp) (v : V) (d : PyData) : Prop := (v = .non ∧ d = .none) ∨ ∃ t, v = .ref t ∧ H0 t = none ∧ ((∃ (w : Str) (i j : Int), d = .tuple [.str w, .int i, .int j] ∧ H t = some (.tup [.str w, .int i, .int j])) ∨
  ∃ a ys st, d = .tuple [.str "pushed", .list (st.map p2D)] ∧ H0 a = none ∧ H t = some (.tup [.str "pushed", .ref a]) ∧ H a = some (.lst ys) ∧ StepsAt H ys st)
theorem Own.same {H0 H H' : Hp} {v : V} {d : PyData} (o : Own H0 H v d) (e : Same H H') : Own H0 H' v d := by
  rcases o with h | ⟨t, h1, h2, ⟨w, i, j, h3, h4⟩ | ⟨a, ys, st, h3, h4, h5, h6, h7⟩⟩
  · exact .inl h
  · exact .inr ⟨t, h1, h2, .inl ⟨w, i, j, h3, e _ _ h4⟩⟩
  · exact .inr ⟨t, h1, h2, .inr ⟨a, ys, st, h3, h4, e _ _ h5, e _ _ h6, h7.same e⟩⟩
theorem Own.back {H00 H0 H : Hp} {v : V} {d : PyData} (o : Own H0 H v d) (e : Same H00 H0) : Own H00 H v d := by
  rcases o with h | ⟨t, h1, h2, ⟨w, i, j, h3, h4⟩ | ⟨a, ys, st, h3, h4, h5, h6, h7⟩⟩
  · exact .inl h
  · exact .inr ⟨t, h1, e.free h2, .inl ⟨w, i, j, h3, h4⟩⟩
  · exact .inr ⟨t, h1, e.free h2, .inr ⟨a, ys, st, h3, e.free h4, h5, h6, h7⟩⟩
theorem own_duo {H0 H : Hp} {p : Addr} {w : Str} {i j : Int} (h : H p = none) (e : Same H0 H) : Own H0 (upd H p (.tup [.str w, .int i, .int j])) (.ref p) (.tuple [.str w, .int i, .int j]) :=
  .inr ⟨p, rfl, e.free h, .inl ⟨w, i, j, rfl, upd_same⟩⟩
/-- an answer that is data, at a heap where all stands -/
def DataQ (K : PySem.W.Frag) (H : Hp) (Q : VK) (d : PyData) : Prop := ∀ v H', Same H H' → Dp K H' v d → Own H H' v d → Q v H'
def sp_find_twice (K : PySem.W.Frag) : Sp := fun vs H Q _ => ∃ (s : Addr) (es : List En), vs = [.ref s] ∧ EntsAt H s es ∧ es.length ≤ 1000 ∧ DataQ K H Q (duoD "twice" (twO [] es))
def sp_find_shared (K : PySem.W.Frag) : Sp := fun vs H Q _ => ∃ (z : Int) (s : Addr) (es : List En), vs = [.int z, .ref s] ∧ SizeOk z ∧ EntsAt H s es ∧ es.length ≤ 1000 ∧ DataQ K H Q (duoD "shared" (shO z [] es))
def sp_find_back (K : PySem.W.Frag) : Sp := fun vs H Q _ => ∃ (s : Addr) (es : List En), vs = [.ref s] ∧ EntsAt H s es ∧ es.length ≤ 1000 ∧ DataQ K H Q (duoD "back" (baO [] es))
def sp_find_pair (K : PySem.W.Frag) : Sp := fun vs H Q _ => ∃ (z : Int) (s : Addr) (es : List En), vs = [.int z, .ref s] ∧ SizeOk z ∧ EntsAt H s es ∧ es.length ≤ 1000 ∧ DataQ K H Q (barD z es)
def sp_pushed_steps (K : PySem.W.Frag) : Sp := fun vs H Q _ => ∃ (p : Addr) (z : Int) (ns : List Str) (es : List En), vs = [.ref p] ∧ SightAt K H p z ns es ∧ ∀ a vs' H', H a = none → Same H H' → H' a = some (.lst vs') → DpAll K H' vs' ((push z ns es).map p2D) → StepsAt H' vs' (push z ns es) → Q (.ref a) H'
def sp_find_obstacle (K : PySem.W.Frag) : Sp := fun vs H Q _ => ∃ (z : Int) (c s : Addr) (ns : List Str) (es : List En), vs = [.int z, .ref c, .ref s] ∧ WF z ns es ∧ CrewAt H c ns ∧ EntsAt H s es ∧ DataQ K H Q (obsD z ns es)
def sp_obstacle (K : PySem.W.Frag) : Sp := fun vs H Q _ => ∃ p b z ns es, vs = [.ref p] ∧ LogAt K H p b z ns es ∧ DataQ K H Q (obsD z ns es)
theorem obs_none {z : Int} {ns : List Str} {es : List En} (h : barD z es = .none) : obsD z ns es = pushedD z ns es := by
  unfold obsD
  rw [h]
theorem obs_some {z : Int} {ns : List Str} {es : List En} (h : ¬ barD z es = .none) : obsD z ns es = barD z es := by
  unfold obsD
  split
  · rename_i g
    exact absurd g h
  · rfl
theorem dps_last {K : PySem.W.Frag} {H : Hp} {d : PyData} : ∀ {ds : List PyData} {vs : List V}, DpAll K H vs (ds ++ [d]) → ∃ us v, vs = us ++ [v] ∧ Dp K H v d
  | [], _, h => by
    cases h with
    | cons a b =>
      cases b
      exact ⟨[], _, rfl, a⟩
  | _ :: _, _, h => by
    cases h with
    | cons a b =>
      obtain ⟨us, v, e, k⟩ := dps_last b
      exact ⟨_ :: us, v, by rw [e]; rfl, k⟩
theorem pushG_cons (f : Int) (p : Int × Int) (r : List (Int × Int)) : pushG f (p :: r) = (if f < p.2 then [p] else []) ++ pushG p.2 r := rfl
theorem loop_zip {K : PySem.W.Frag} {a b : Addr} {g : TG} {tb : TS} {D : Ends} {σ : L2.St} {H : Hp} (xs ys : List V) (Pv : Nat → L2.St → Hp → Prop) (h0 : Pv 0 σ H) (hl : ∀ i σ' H', Pv i σ' H' → SqL K H' a xs ∧ SqL K H' b ys)
    (hs : ∀ (i : Nat) x y σ' H' T, xs[i]? = some x → ys[i]? = some y → Pv i σ' H' → H' T = none → g (.ref T) σ' (upd H' T (.tup [x, y])) fun σ2 H2 => tb { D with nx := Pv (i + 1), ct := Pv (i + 1), bk := D.nx } σ2 H2)
    (hd : ∀ σ' H', Pv (min xs.length ys.length) σ' H' → D.nx σ' H') : LoopR (Itz K a b) g tb D σ H := by
  refine ⟨fun i m σ H => m = min xs.length ys.length - i ∧ i ≤ min xs.length ys.length ∧ Pv i σ H, ⟨_, rfl, Nat.zero_le _, h0⟩, ?_⟩
  rintro i m σ H ⟨rfl, hi, p⟩
  obtain ⟨q1, q2⟩ := hl i σ H p
  by_cases hlt : i < min xs.length ys.length
  · have h1 : i < xs.length := by omega
    have h2 : i < ys.length := by omega
    refine .inr ⟨⟨xs, ys, xs[i], ys[i], q1, q2, by simp [h1], by simp [h2]⟩, Pv (i + 1), fun σ' H' p' => ⟨_, by omega, rfl, by omega, p'⟩, fun x H' y => ?_⟩
    obtain ⟨T, x', y', rfl, hT, rfl, z1, z2⟩ := y
    exact hs i x' y' σ H T (z1 xs q1) (z2 ys q2) p hT
  · have e : i = min xs.length ys.length := by omega
    subst e
    exact .inl ⟨⟨xs, ys, q1, q2, by omega⟩, hd σ H p⟩
theorem findIdx_snoc (p : En → Bool) (e : En) : ∀ pre : List En, (pre ++ [e]).findIdx? p = match pre.findIdx? p with
    | some i => some i
    | none => if p e = true then some pre.length else none := by
  intro pre
  rw [List.findIdx?_append]
  cases h : pre.findIdx? p with
  | some i => rfl
  | none =>
    simp only [List.findIdx?_cons, List.findIdx?_nil]
    by_cases g : p e = true
    · simp [g]
    · simp [g]
theorem findIdx_lt {p : En → Bool} {pre : List En} {i : Nat} (h : pre.findIdx? p = some i) : i < pre.length := by
  obtain ⟨a, _⟩ := List.findIdx?_eq_some_iff_getElem.mp h
  exact a
theorem twO_cons (pre : List En) (e : En) (r : List En) : twO pre (e :: r) = match pre.findIdx? (fun x => decide (x.2 = e.2)) with
    | some i => some (i, pre.length)
    | none => twO (pre ++ [e]) r := rfl
theorem shO_cons (z : Int) (pre : List En) (e : En) (r : List En) : shO z pre (e :: r) = match pre.findIdx? (fun x => decide (x.2 / z = e.2 / z)) with
    | some i => if (pre.getD i e).1 = e.1 then shO z (pre ++ [e]) r else some (i, pre.length)
    | none => shO z (pre ++ [e]) r := rfl
theorem baO_cons (pre : List En) (e : En) (r : List En) : baO pre (e :: r) = match lastI e.1 pre 0 with
    | some i => if e.2 < (pre.getD i e).2 then some (i, pre.length) else baO (pre ++ [e]) r
    | none => baO (pre ++ [e]) r := rfl
/-- a tuple of a word and two indices -/
theorem dp_duo {K : PySem.W.Frag} {H : Hp} {p : Addr} {w : Str} {i j : Nat} (h : H p = some (.tup [.str w, .int (i : Int), .int (j : Int)])) : Dp K H (.ref p) (duoD w (some (i, j))) := .tup (SqT.of h) (.cons (.str _) (.cons (.int _) (.cons (.int _) .nil)))
theorem dp_none {K : PySem.W.Frag} {H : Hp} {v : V} {w : Str} {o : Option (Nat × Nat)} (h : Dp K H v (duoD w o)) : v = .non ↔ o = none := by
  cases o with
  | none =>
    cases h
    simp
  | some p =>
    cases h
    simp
end NbM

set_option Elab.async false
set_option linter.all false
set_option maxRecDepth 100000
set_option maxHeartbeats 4000000
/-! A drawn history: its takes and what is shown; no log that shows a part of one has an obstacle. -/
namespace NbQ
open PySem PySem.Spec PyProof.Rows L2 Nb NbE NbS NbF NbP NbK NbL NbX NbW NbZ NbM
structure Take where
  a : Int
  b : Int
  n : Str
  s : Nat
structure Tale (z : Int) (es : List En) (tk : List Take) (fr : Int) : Prop where
  cov : ∀ q : Int, 0 ≤ q → q < fr → ∃ t ∈ tk, t.a ≤ q ∧ q ≤ t.b
  rng : ∀ t ∈ tk, 0 ≤ t.a ∧ t.a ≤ t.b ∧ t.b < fr
  asc : tk.Pairwise (fun t u => t.b < u.a ∧ t.s ≤ u.s)
  slt : ∀ t ∈ tk, t.s ≤ es.length
  own : ∀ (k : Nat) (e : En), es[k]? = some e → ∃ t ∈ tk, t.n = e.1 ∧ t.b = e.2 / z ∧ t.s ≤ k
  low : ∀ t ∈ tk, ∀ (k : Nat) (e : En), es[k]? = some e → e.1 = t.n → k < t.s → e.2 / z < t.a
  hig : ∀ t ∈ tk, ∀ (k : Nat) (e : En), es[k]? = some e → e.1 = t.n → t.s ≤ k → t.b ≤ e.2 / z
  num : ∀ (i j : Nat) (e f : En), i < j → es[i]? = some e → es[j]? = some f → e.1 = f.1 → e.2 < f.2
theorem tale_nil (z : Int) : Tale z [] [] 0 where
  cov := fun q h0 h1 => by omega
  rng := fun t h => by simp at h
  asc := List.Pairwise.nil
  slt := fun t h => by simp at h
  own := fun k e h => by simp at h
  low := fun t h => by simp at h
  hig := fun t h => by simp at h
  num := fun i j e f _ h => by simp at h
theorem Tale.take {z : Int} {es : List En} {tk : List Take} {fr : Int} (T : Tale z es tk fr) (h0 : 0 ≤ fr) {m : Int} (hm : 1 ≤ m) (n : Str) : Tale z es (tk ++ [⟨fr, fr + m - 1, n, es.length⟩]) (fr + m) := by
  have len : ∀ (k : Nat) (e : En), es[k]? = some e → k < es.length := fun k e h => (List.getElem?_eq_some_iff.mp h).1
  refine ⟨fun q h1 h2 => ?_, fun t ht => ?_, ?_, fun t ht => ?_, fun k e h => ?_, fun t ht k e h hn hk => ?_, fun t ht k e h hn hk => ?_, T.num⟩
  · by_cases h : q < fr
    · obtain ⟨t, a, b⟩ := T.cov q h1 h
      exact ⟨t, List.mem_append_left _ a, b⟩
    · exact ⟨_, List.mem_append_right _ List.mem_cons_self, by show fr ≤ q; omega, by show q ≤ fr + m - 1; omega⟩
  · rcases List.mem_append.mp ht with h | h
    · have := T.rng t h
      omega
    · rw [List.mem_singleton.mp h]
      show 0 ≤ fr ∧ fr ≤ fr + m - 1 ∧ fr + m - 1 < fr + m
      omega
  · rw [List.pairwise_append]
    refine ⟨T.asc, by simp, fun t ht u hu => ?_⟩
    rw [List.mem_singleton.mp hu]
    exact ⟨(T.rng t ht).2.2, T.slt t ht⟩
  · rcases List.mem_append.mp ht with h | h
    · exact T.slt t h
    · rw [List.mem_singleton.mp h]
      exact Nat.le_refl _
  · obtain ⟨t, a, b⟩ := T.own k e h
    exact ⟨t, List.mem_append_left _ a, b⟩
  · rcases List.mem_append.mp ht with g | g
    · exact T.low t g k e h hn hk
    · rw [List.mem_singleton.mp g]
      obtain ⟨t', a, b, c, d⟩ := T.own k e h
      have := (T.rng t' a).2.2
      show e.2 / z < fr
      omega
  · rcases List.mem_append.mp ht with g | g
    · exact T.hig t g k e h hn hk
    · rw [List.mem_singleton.mp g] at hk
      have := len k e h
      have hk' : es.length ≤ k := hk
      omega
theorem snoc_get {es : List En} {e f : En} {k : Nat} (h : (es ++ [e])[k]? = some f) : es[k]? = some f ∨ (k = es.length ∧ f = e) := by
  by_cases hk : k < es.length
  · rw [List.getElem?_append_left hk] at h
    exact .inl h
  · rw [List.getElem?_append_right (by omega)] at h
    have : k - es.length = 0 := by
      have := (List.getElem?_eq_some_iff.mp h).1
      simp at this
      omega
    rw [this] at h
    simp at h
    exact .inr ⟨by omega, h.symm⟩
theorem Tale.show {z : Int} {es : List En} {tk : List Take} {fr : Int} (T : Tale z es tk fr) {e : En} {t0 : Take} (h0 : t0 ∈ tk) (hn : t0.n = e.1) (hb : t0.b = e.2 / z) (hl : ∀ t ∈ tk, t.n = e.1 → t.b ≤ e.2 / z) (hlt : ∀ f ∈ es, f.1 = e.1 → f.2 < e.2) : Tale z (es ++ [e]) tk fr := by
  refine ⟨T.cov, T.rng, T.asc, fun t ht => by have := T.slt t ht; rw [List.length_append]; omega, fun k f h => ?_, fun t ht k f h hn' hk => ?_, fun t ht k f h hn' hk => ?_, fun i j f g hij h1 h2 hfg => ?_⟩
  · rcases snoc_get h with h | ⟨rfl, rfl⟩
    · exact T.own k f h
    · exact ⟨t0, h0, hn, hb, T.slt t0 h0⟩
  · rcases snoc_get h with h | ⟨rfl, rfl⟩
    · exact T.low t ht k f h hn' hk
    · have := T.slt t ht
      omega
  · rcases snoc_get h with h | ⟨rfl, rfl⟩
    · exact T.hig t ht k f h hn' hk
    · exact hl t ht hn'.symm
  · rcases snoc_get h2 with k2 | ⟨k2, k3⟩
    · rcases snoc_get h1 with k1 | ⟨k1, k4⟩
      · exact T.num i j f g hij k1 k2 hfg
      · have := (List.getElem?_eq_some_iff.mp k2).1
        omega
    · rcases snoc_get h1 with k1 | ⟨k1, k4⟩
      · subst k3
        exact hlt f (List.mem_of_getElem? k1) hfg
      · omega
/-! ### some of the entries -/
def keep {α : Type} : List Bool → List α → List α
  | b :: fl, e :: es => if b = true then e :: keep fl es else keep fl es
  | _, _ => []
def cnt (fl : List Bool) (s : Nat) : Nat := ((fl.take s).filter id).length
theorem cnt_cons (b : Bool) (fl : List Bool) (s : Nat) : cnt (b :: fl) (s + 1) = (if b = true then 1 else 0) + cnt fl s := by
  unfold cnt
  rw [List.take_succ_cons, List.filter_cons]
  cases b
  · simp
  · simp
    omega
theorem cnt_zero (fl : List Bool) : cnt fl 0 = 0 := rfl
theorem keep_get : ∀ {fl : List Bool} {es : List En} {k' : Nat} {e : En}, (keep fl es)[k']? = some e → ∃ k, es[k]? = some e ∧ fl[k]? = some true ∧ cnt fl k = k'
  | [], _, k', e, h => by simp [keep] at h
  | _ :: _, [], k', e, h => by simp [keep] at h
  | true :: fl, x :: es, 0, e, h => ⟨0, by simpa [keep] using h, rfl, rfl⟩
  | true :: fl, x :: es, k' + 1, e, h => by
    obtain ⟨k, h1, h2, h3⟩ := keep_get (fl := fl) (es := es) (k' := k') (e := e) (by simpa [keep] using h)
    exact ⟨k + 1, by simpa using h1, by simpa using h2, by rw [cnt_cons, if_pos rfl, h3]; omega⟩
  | false :: fl, x :: es, k', e, h => by
    obtain ⟨k, h1, h2, h3⟩ := keep_get (fl := fl) (es := es) (k' := k') (e := e) (by simpa [keep] using h)
    exact ⟨k + 1, by simpa using h1, by simpa using h2, by rw [cnt_cons, if_neg (by decide), h3]; omega⟩
theorem cnt_mono (fl : List Bool) : ∀ {k s : Nat}, k ≤ s → cnt fl k ≤ cnt fl s := by
  induction fl with
  | nil => intro k s _; simp [cnt]
  | cons b fl ih =>
    intro k s h
    cases k with
    | zero => exact Nat.zero_le _
    | succ k =>
      cases s with
      | zero => omega
      | succ s =>
        rw [cnt_cons, cnt_cons]
        have := ih (k := k) (s := s) (by omega)
        omega
theorem cnt_lt {fl : List Bool} : ∀ {k s : Nat}, k < s → fl[k]? = some true → cnt fl k + 1 ≤ cnt fl s := by
  induction fl with
  | nil => intro k s _ h; simp at h
  | cons b fl ih =>
    intro k s h hk
    cases s with
    | zero => omega
    | succ s =>
      cases k with
      | zero =>
        simp at hk
        subst hk
        rw [cnt_cons, if_pos rfl, cnt_zero]
        omega
      | succ k =>
        rw [cnt_cons, cnt_cons]
        have := ih (k := k) (s := s) (by omega) (by simpa using hk)
        omega
theorem keep_len : ∀ {fl : List Bool} {es : List En} {s : Nat}, fl.length = es.length → es.length ≤ s → cnt fl s = (keep fl es).length
  | [], [], s, _, _ => by simp [cnt, keep]
  | b :: fl, x :: es, 0, _, h => by simp at h
  | b :: fl, x :: es, s + 1, h, h2 => by
    have ih := keep_len (fl := fl) (es := es) (s := s) (by simpa using h) (by simpa using h2)
    rw [cnt_cons, ih]
    cases b
    · simp [keep]
    · simp [keep]
      omega
  | [], _ :: _, _, h, _ => by simp at h
  | _ :: _, [], _, h, _ => by simp at h
def Take.at (t : Take) (fl : List Bool) : Take := { t with s := cnt fl t.s }
theorem Tale.keep {z : Int} {es : List En} {tk : List Take} {fr : Int} (T : Tale z es tk fr) {fl : List Bool} (hl : fl.length = es.length) : Tale z (keep fl es) (tk.map fun t => t.at fl) fr := by
  have mem : ∀ t' ∈ tk.map (fun t => t.at fl), ∃ t ∈ tk, t' = t.at fl := fun t' h => by
    obtain ⟨t, a, b⟩ := List.mem_map.mp h
    exact ⟨t, a, b.symm⟩
  refine ⟨fun q h1 h2 => ?_, fun t ht => ?_, ?_, fun t ht => ?_, fun k e h => ?_, fun t ht k e h hn hk => ?_, fun t ht k e h hn hk => ?_, fun i j e f hij h1 h2 hef => ?_⟩
  · obtain ⟨t, a, b⟩ := T.cov q h1 h2
    exact ⟨t.at fl, List.mem_map_of_mem a, b⟩
  · obtain ⟨t, a, rfl⟩ := mem t ht
    exact T.rng t a
  · rw [List.pairwise_map]
    exact T.asc.imp fun h => ⟨h.1, cnt_mono fl h.2⟩
  · obtain ⟨t, a, rfl⟩ := mem t ht
    rw [← keep_len hl (Nat.le_refl _)]
    exact cnt_mono fl (T.slt t a)
  · obtain ⟨k0, g1, g2, g3⟩ := keep_get h
    obtain ⟨t, a, b, c, d⟩ := T.own k0 e g1
    exact ⟨t.at fl, List.mem_map_of_mem a, b, c, by rw [← g3]; exact cnt_mono fl d⟩
  · obtain ⟨t, a, rfl⟩ := mem t ht
    obtain ⟨k0, g1, g2, g3⟩ := keep_get h
    refine T.low t a k0 e g1 hn ?_
    by_cases g : k0 < t.s
    · exact g
    · have := cnt_mono fl (show t.s ≤ k0 by omega)
      have hk' : k < cnt fl t.s := hk
      omega
  · obtain ⟨t, a, rfl⟩ := mem t ht
    obtain ⟨k0, g1, g2, g3⟩ := keep_get h
    refine T.hig t a k0 e g1 hn ?_
    by_cases g : t.s ≤ k0
    · exact g
    · have := cnt_lt (show k0 < t.s by omega) g2
      have hk' : cnt fl t.s ≤ k := hk
      omega
  · obtain ⟨i0, g1, g2, g3⟩ := keep_get h1
    obtain ⟨j0, f1, f2, f3⟩ := keep_get h2
    refine T.num i0 j0 e f ?_ g1 f1 hef
    by_cases g : i0 < j0
    · exact g
    · have := cnt_mono fl (show j0 ≤ i0 by omega)
      omega
/-! ### windows -/
theorem low_le (q z : Int) (n : Str) (s : Int) : ∀ (es : List En) (k : Nat) (l : Int), l ≤ k → (low q (plc z n k es) l ≤ s ↔ l ≤ s ∧ ∀ (i : Nat) (e : En), es[i]? = some e → e.1 = n → e.2 / z < q → ((k + i : Nat) : Int) + 1 ≤ s)
  | [], k, l, hl => ⟨fun h => ⟨h, fun i e hi => by simp at hi⟩, fun h => h.1⟩
  | x :: es, k, l, hl => by
    rw [plc_cons]
    have split0 : (∀ (i : Nat) (e : En), (x :: es)[i]? = some e → e.1 = n → e.2 / z < q → ((k + i : Nat) : Int) + 1 ≤ s) ↔ ((x.1 = n → x.2 / z < q → (k : Int) + 1 ≤ s) ∧ ∀ (i : Nat) (e : En), es[i]? = some e → e.1 = n → e.2 / z < q → ((k + 1 + i : Nat) : Int) + 1 ≤ s) := by
      constructor
      · intro h
        refine ⟨fun h1 h2 => by simpa using h 0 x rfl h1 h2, fun i e hi h1 h2 => ?_⟩
        have := h (i + 1) e (by simpa using hi) h1 h2
        omega
      · rintro ⟨h1, h2⟩ i e hi h3 h4
        cases i with
        | zero =>
          simp at hi
          subst hi
          simpa using h1 h3 h4
        | succ i =>
          have := h2 i e (by simpa using hi) h3 h4
          omega
    rw [split0]
    by_cases h : x.1 = n
    · rw [if_pos h, low_cons]
      by_cases g : x.2 / z < q
      · rw [if_pos g, low_le q z n s es (k + 1) _ (by omega)]
        constructor
        · rintro ⟨h1, h2⟩
          exact ⟨by omega, fun _ _ => h1, h2⟩
        · rintro ⟨h1, h2, h3⟩
          exact ⟨h2 h g, h3⟩
      · rw [if_neg g, low_le q z n s es (k + 1) l (by omega)]
        exact ⟨fun ⟨h1, h2⟩ => ⟨h1, fun _ k => absurd k g, h2⟩, fun ⟨h1, _, h3⟩ => ⟨h1, h3⟩⟩
    · rw [if_neg h, low_le q z n s es (k + 1) l (by omega)]
      exact ⟨fun ⟨h1, h2⟩ => ⟨h1, fun k => absurd k h, h2⟩, fun ⟨h1, _, h3⟩ => ⟨h1, h3⟩⟩
theorem high_ge (q z : Int) (n : Str) (s : Int) : ∀ (es : List En) (k : Nat) (h : Int), (s ≤ high q (plc z n k es) h ↔ s ≤ h ∧ ∀ (i : Nat) (e : En), es[i]? = some e → e.1 = n → ¬ e.2 / z < q → s ≤ ((k + i : Nat) : Int))
  | [], k, h => ⟨fun g => ⟨g, fun i e hi => by simp at hi⟩, fun g => g.1⟩
  | x :: es, k, h => by
    rw [plc_cons]
    have split0 : (∀ (i : Nat) (e : En), (x :: es)[i]? = some e → e.1 = n → ¬ e.2 / z < q → s ≤ ((k + i : Nat) : Int)) ↔ ((x.1 = n → ¬ x.2 / z < q → s ≤ (k : Int)) ∧ ∀ (i : Nat) (e : En), es[i]? = some e → e.1 = n → ¬ e.2 / z < q → s ≤ ((k + 1 + i : Nat) : Int)) := by
      constructor
      · intro g
        refine ⟨fun h1 h2 => by simpa using g 0 x rfl h1 h2, fun i e hi h1 h2 => ?_⟩
        have := g (i + 1) e (by simpa using hi) h1 h2
        omega
      · rintro ⟨h1, h2⟩ i e hi h3 h4
        cases i with
        | zero =>
          simp at hi
          subst hi
          simpa using h1 h3 h4
        | succ i =>
          have := h2 i e (by simpa using hi) h3 h4
          omega
    rw [split0]
    by_cases g : x.1 = n
    · rw [if_pos g, high_cons, high_ge q z n s es (k + 1)]
      by_cases g2 : x.2 / z < q
      · rw [if_pos g2]
        exact ⟨fun ⟨h1, h2⟩ => ⟨h1, fun _ k => absurd g2 k, h2⟩, fun ⟨h1, _, h3⟩ => ⟨h1, h3⟩⟩
      · rw [if_neg g2]
        constructor
        · rintro ⟨h1, h2⟩
          exact ⟨by omega, fun _ _ => by omega, h2⟩
        · rintro ⟨h1, h2, h3⟩
          have := h2 g g2
          exact ⟨by omega, h3⟩
    · rw [if_neg g, high_ge q z n s es (k + 1)]
      exact ⟨fun ⟨h1, h2⟩ => ⟨h1, fun k => absurd k g, h2⟩, fun ⟨h1, _, h3⟩ => ⟨h1, h3⟩⟩
theorem win_some {z q : Int} {es : List En} {n : Str} (h : ∀ (k : Nat) (e : En), es[k]? = some e → e.2 / z = q → e.1 = n) : winO z es n q = some (NbW.low q (plc z n 0 es) 0, high q (plc z n 0 es) (es.length : Int)) := by
  unfold winO
  rw [if_neg]
  rw [Bool.not_eq_true, List.any_eq_false]
  intro x hx
  unfold hold at hx
  obtain ⟨e, he, rfl⟩ := List.mem_map.mp hx
  obtain ⟨h1, h2⟩ := List.mem_filter.mp he
  obtain ⟨k, hk⟩ := List.mem_iff_getElem?.mp h1
  simpa using h k e hk (of_decide_eq_true h2)
/-- takes are one after another -/
theorem Tale.same {z : Int} {es : List En} {tk : List Take} {fr : Int} (T : Tale z es tk fr) {t u : Take} (ht : t ∈ tk) (hu : u ∈ tk) : t = u ∨ (t.b < u.a ∧ t.s ≤ u.s) ∨ (u.b < t.a ∧ u.s ≤ t.s) := by
  obtain ⟨i, hi⟩ := List.mem_iff_getElem?.mp ht
  obtain ⟨j, hj⟩ := List.mem_iff_getElem?.mp hu
  obtain ⟨hi1, hi2⟩ := List.getElem?_eq_some_iff.mp hi
  obtain ⟨hj1, hj2⟩ := List.getElem?_eq_some_iff.mp hj
  have p := List.pairwise_iff_getElem.mp T.asc
  rcases Nat.lt_trichotomy i j with h | h | h
  · have := p i j hi1 hj1 h
    rw [hi2, hj2] at this
    exact .inr (.inl this)
  · subst h
    exact .inl (hi2.symm.trans hj2)
  · have := p j i hj1 hi1 h
    rw [hi2, hj2] at this
    exact .inr (.inr this)
theorem Tale.one {z : Int} {es : List En} {tk : List Take} {fr : Int} (T : Tale z es tk fr) {t u : Take} (ht : t ∈ tk) (hu : u ∈ tk) {q : Int} (h1 : t.a ≤ q) (h2 : q ≤ t.b) (h3 : u.a ≤ q) (h4 : q ≤ u.b) : t = u := by
  rcases T.same ht hu with h | h | h
  · exact h
  · omega
  · omega
theorem Tale.win {z : Int} {es : List En} {tk : List Take} {fr : Int} (T : Tale z es tk fr) {t : Take} (ht : t ∈ tk) {q : Int} (h1 : t.a ≤ q) (h2 : q ≤ t.b) : ∃ lo hi, winO z es t.n q = some (lo, hi) ∧ lo ≤ (t.s : Int) ∧ (t.s : Int) ≤ hi := by
  refine ⟨_, _, win_some fun k e he hq => ?_, ?_, ?_⟩
  · obtain ⟨u, a, b, c, d⟩ := T.own k e he
    have := T.rng u a
    rw [T.one ht a h1 h2 (by omega) (by omega)]
    exact b.symm
  · rw [low_le q z t.n t.s es 0 0 (Int.le_refl _)]
    refine ⟨by omega, fun i e hi hn hb => ?_⟩
    by_cases g : i < t.s
    · omega
    · have := T.hig t ht i e hi hn (by omega)
      omega
  · rw [high_ge q z t.n t.s es 0]
    have := T.slt t ht
    refine ⟨by omega, fun i e hi hn hb => ?_⟩
    by_cases g : t.s ≤ i
    · omega
    · have := T.low t ht i e hi hn (by omega)
      omega
/-! ### no obstacle -/
theorem twO_none : ∀ (rest pre : List En), (∀ (i j : Nat) (e f : En), i < j → (pre ++ rest)[i]? = some e → (pre ++ rest)[j]? = some f → e.2 ≠ f.2) → twO pre rest = none
  | [], _, _ => rfl
  | e :: r, pre, h => by
    rw [twO_cons]
    cases hf : pre.findIdx? (fun x => decide (x.2 = e.2)) with
    | some i =>
      obtain ⟨hi, hd, _⟩ := List.findIdx?_eq_some_iff_getElem.mp hf
      refine absurd (of_decide_eq_true hd) (h i pre.length pre[i] e hi ?_ ?_)
      · rw [List.getElem?_append_left hi, List.getElem?_eq_getElem hi]
      · rw [List.getElem?_append_right (Nat.le_refl _), Nat.sub_self]
        rfl
    | none =>
      exact twO_none r (pre ++ [e]) (by rw [List.append_assoc]; exact h)
theorem shO_none (z : Int) : ∀ (rest pre : List En), (∀ (i j : Nat) (e f : En), i < j → (pre ++ rest)[i]? = some e → (pre ++ rest)[j]? = some f → e.2 / z = f.2 / z → e.1 = f.1) → shO z pre rest = none
  | [], _, _ => rfl
  | e :: r, pre, h => by
    rw [shO_cons]
    have ih := shO_none z r (pre ++ [e]) (by rw [List.append_assoc]; exact h)
    cases hf : pre.findIdx? (fun x => decide (x.2 / z = e.2 / z)) with
    | some i =>
      obtain ⟨hi, hd, _⟩ := List.findIdx?_eq_some_iff_getElem.mp hf
      have hg : pre.getD i e = pre[i] := by
        rw [List.getD_eq_getElem?_getD, List.getElem?_eq_getElem hi]
        rfl
      have := h i pre.length pre[i] e hi (by rw [List.getElem?_append_left hi, List.getElem?_eq_getElem hi]) (by rw [List.getElem?_append_right (Nat.le_refl _), Nat.sub_self]; rfl) (of_decide_eq_true hd)
      simp only [hg]
      rw [if_pos this]
      exact ih
    | none => exact ih
theorem lastI_name (n : Str) : ∀ (pre : List En) (k i : Nat), lastI n pre k = some i → ∃ x, pre[i - k]? = some x ∧ x.1 = n ∧ k ≤ i
  | [], _, _, h => nomatch h
  | x :: r, k, i, h => by
    rw [lastI_cons] at h
    cases g : lastI n r (k + 1) with
    | some j =>
      rw [g] at h
      simp only [Option.some.injEq] at h
      subst h
      obtain ⟨y, h1, h2, h3⟩ := lastI_name n r (k + 1) j g
      refine ⟨y, ?_, h2, by omega⟩
      have e : j - k = (j - (k + 1)) + 1 := by omega
      rw [e]
      simpa using h1
    | none =>
      rw [g] at h
      simp only at h
      split at h
      · rename_i hx
        cases h
        exact ⟨x, by rw [Nat.sub_self]; rfl, hx, Nat.le_refl _⟩
      · cases h
theorem baO_none : ∀ (rest pre : List En), (∀ (i j : Nat) (e f : En), i < j → (pre ++ rest)[i]? = some e → (pre ++ rest)[j]? = some f → e.1 = f.1 → e.2 ≤ f.2) → baO pre rest = none
  | [], _, _ => rfl
  | e :: r, pre, h => by
    rw [baO_cons]
    have ih := baO_none r (pre ++ [e]) (by rw [List.append_assoc]; exact h)
    cases hf : lastI e.1 pre 0 with
    | some i =>
      obtain ⟨x, h1, h2, _⟩ := lastI_name e.1 pre 0 i hf
      rw [Nat.sub_zero] at h1
      have hi := (List.getElem?_eq_some_iff.mp h1).1
      have hg : pre.getD i e = x := by
        rw [List.getD_eq_getElem?_getD, h1]
        rfl
      have := h i pre.length x e hi (by rw [List.getElem?_append_left hi, h1]) (by rw [List.getElem?_append_right (Nat.le_refl _), Nat.sub_self]; rfl) h2
      simp only [hg]
      rw [if_neg (by omega)]
      exact ih
    | none => exact ih
theorem slotF_le {s k : Int} (hs : s ≤ k) : ∀ (ws : List (Int × Int)) (f : Int), slotF s ws f ≤ f ∧ ((∃ p ∈ ws, p.1 ≤ k ∧ k ≤ p.2) → slotF s ws f ≤ k)
  | [], f => ⟨Int.le_refl _, fun ⟨p, hp, _⟩ => nomatch hp⟩
  | p :: r, f => by
    rw [slotF_cons]
    obtain ⟨h1, h2⟩ := slotF_le hs r (if max p.1 s ≤ p.2 then min f (max p.1 s) else f)
    have hle : (if max p.1 s ≤ p.2 then min f (max p.1 s) else f) ≤ f := by split <;> omega
    refine ⟨Int.le_trans h1 hle, ?_⟩
    rintro ⟨p', hp, a, b⟩
    rcases List.mem_cons.mp hp with rfl | hp
    · have : max p'.1 s ≤ p'.2 := by omega
      rw [if_pos this] at h1 ⊢
      omega
    · exact h2 ⟨p', hp, a, b⟩
theorem startsG_ok : ∀ (xs : List Int) (f : Int), xs.Pairwise (· < ·) → (∀ b ∈ xs, f ≤ b) → (startsG f xs).Pairwise (· < ·) ∧ ∀ q ∈ startsG f xs, f ≤ q ∧ ∃ b ∈ xs, q ≤ b
  | [], _, _, _ => ⟨List.Pairwise.nil, fun q h => nomatch h⟩
  | b :: r, f, hp, hb => by
    obtain ⟨p1, p2⟩ := List.pairwise_cons.mp hp
    obtain ⟨i1, i2⟩ := startsG_ok r (b + 1) p2 fun x hx => p1 x hx
    have hfb := hb b List.mem_cons_self
    rw [startsG_cons]
    have up : ∀ q ∈ startsG (b + 1) r, b + 1 ≤ q ∧ ∃ b' ∈ b :: r, q ≤ b' := fun q hq => by
      obtain ⟨a, b', c, d⟩ := i2 q hq
      exact ⟨a, b', List.mem_cons_of_mem _ c, d⟩
    split
    · rename_i h
      refine ⟨?_, fun q hq => ?_⟩
      · rw [List.pairwise_append]
        refine ⟨List.pairwise_cons.mpr ⟨fun x hx => ?_, by simp⟩, i1, fun x hx y hy => ?_⟩
        · rw [List.mem_singleton.mp hx]
          exact h
        · have := (up y hy).1
          simp only [List.mem_cons, List.not_mem_nil, or_false] at hx
          rcases hx with rfl | rfl <;> omega
      · rcases List.mem_append.mp hq with hq | hq
        · simp only [List.mem_cons, List.not_mem_nil, or_false] at hq
          rcases hq with rfl | rfl
          · exact ⟨Int.le_refl _, b, List.mem_cons_self, by omega⟩
          · exact ⟨hfb, q, List.mem_cons_self, Int.le_refl _⟩
        · obtain ⟨a, c⟩ := up q hq
          exact ⟨by omega, c⟩
    · refine ⟨?_, fun q hq => ?_⟩
      · rw [List.pairwise_append]
        refine ⟨by simp, i1, fun x hx y hy => ?_⟩
        have := (up y hy).1
        rw [List.mem_singleton.mp hx]
        omega
      · rcases List.mem_append.mp hq with hq | hq
        · rw [List.mem_singleton.mp hq]
          exact ⟨hfb, b, List.mem_cons_self, Int.le_refl _⟩
        · obtain ⟨a, c⟩ := up q hq
          exact ⟨by omega, c⟩
/-- in which slot a block is taken -/
def At (tk : List Take) (q k : Int) : Prop := ∃ t ∈ tk, t.a ≤ q ∧ q ≤ t.b ∧ k = (t.s : Int)
theorem Tale.walk {z : Int} {es : List En} {tk : List Take} {fr : Int} {ns : List Str} (T : Tale z es tk fr) (hn : ∀ t ∈ tk, t.n ∈ ns) : ∀ (ys : List Int) (s : Int), ys.Pairwise (· < ·) → (∀ q ∈ ys, 0 ≤ q ∧ q < fr) → (∀ q ∈ ys, ∀ k, At tk q k → s ≤ k) → ∀ x ∈ walkE (sFrom z ns es) (es.length : Int) s ys, x ≤ (es.length : Int)
  | [], _, _, _, _ => fun x h => nomatch h
  | q :: r, s, hp, hr, hs => by
    obtain ⟨p1, p2⟩ := List.pairwise_cons.mp hp
    obtain ⟨t, ht, h1, h2⟩ := T.cov q (hr q List.mem_cons_self).1 (hr q List.mem_cons_self).2
    have hsk := hs q List.mem_cons_self (t.s : Int) ⟨t, ht, h1, h2, rfl⟩
    obtain ⟨lo, hi, w1, w2, w3⟩ := T.win ht h1 h2
    have hle : sFrom z ns es q s ≤ (t.s : Int) := (slotF_le hsk _ _).2 ⟨(lo, hi), by
      unfold wins
      rw [List.mem_filterMap]
      exact ⟨t.n, hn t ht, w1⟩, w2, w3⟩
    have hlt := T.slt t ht
    rw [walkE_cons, if_neg (by omega)]
    intro x hx
    rcases List.mem_cons.mp hx with rfl | hx
    · omega
    · refine T.walk hn r _ p2 (fun q' hq' => hr q' (List.mem_cons_of_mem _ hq')) (fun q' hq' k hk => ?_) x hx
      obtain ⟨u, hu, k1, k2, rfl⟩ := hk
      have hlt2 := p1 q' hq'
      rcases T.same ht hu with h | h | h
      · subst h
        exact hle
      · omega
      · have := T.rng u hu
        have := T.rng t ht
        omega
theorem mem_pushG : ∀ (zs : List (Int × Int)) (f : Int) (p : Int × Int), p ∈ pushG f zs → p ∈ zs
  | [], _, _, h => nomatch h
  | x :: r, f, p, h => by
    rw [pushG_cons] at h
    rcases List.mem_append.mp h with h | h
    · split at h
      · rw [List.mem_singleton.mp h]
        exact List.mem_cons_self
      · cases h
    · exact List.mem_cons_of_mem _ (mem_pushG r _ p h)
theorem pushed_none {z : Int} {ns : List Str} {es : List En} (h : ∀ x ∈ earl z ns es, x ≤ (es.length : Int)) : pushedD z ns es = .none := by
  unfold pushedD
  rw [if_neg]
  unfold lastS
  cases hl : (push z ns es).getLast? with
  | none =>
    show ¬ (es.length : Int) < 0
    omega
  | some p =>
    have hm := mem_pushG _ _ _ (List.mem_of_getLast? hl)
    have := h p.2 (List.of_mem_zip hm).2
    show ¬ (es.length : Int) < p.2
    omega
theorem Tale.obs {z : Int} {es : List En} {tk : List Take} {fr : Int} {ns : List Str} (T : Tale z es tk fr) (hn : ∀ t ∈ tk, t.n ∈ ns) : obsD z ns es = .none := by
  have own2 : ∀ (i j : Nat) (e f : En), es[i]? = some e → es[j]? = some f → e.2 / z = f.2 / z → e.1 = f.1 := fun i j e f hi hj h => by
    obtain ⟨t, a, b, c, _⟩ := T.own i e hi
    obtain ⟨u, a', b', c', _⟩ := T.own j f hj
    have r1 := T.rng t a
    have r2 := T.rng u a'
    have := T.one a a' (q := e.2 / z) (by omega) (by omega) (by omega) (by omega)
    subst this
    exact b.symm.trans b'
  have hb : barD z es = .none := by
    unfold barD
    rw [twO_none es [] fun i j e f hij hi hj h => ?_]
    · simp only
      rw [shO_none z es [] fun i j e f _ hi hj h => own2 i j e f hi hj h]
      simp only
      rw [baO_none es [] fun i j e f hij hi hj h => Int.le_of_lt (T.num i j e f hij hi hj h)]
      rfl
    · have h1 := own2 i j e f hi hj (by rw [h])
      have h2 := T.num i j e f hij hi hj h1
      omega
  rw [obs_none hb]
  refine pushed_none ?_
  obtain ⟨s1, s2⟩ := startsG_ok (seen z es) 0 (lt_seen z es) fun b hb => by
    obtain ⟨e, he, rfl⟩ := (mem_seen z b es).mp hb
    obtain ⟨k, hk⟩ := List.mem_iff_getElem?.mp he
    obtain ⟨t, a, _, c, _⟩ := T.own k e hk
    have := T.rng t a
    omega
  refine T.walk hn (starts z es) 0 s1 (fun q hq => ?_) (fun q hq k hk => ?_)
  · obtain ⟨a, b, hb, c⟩ := s2 q hq
    obtain ⟨e, he, rfl⟩ := (mem_seen z b es).mp hb
    obtain ⟨k, hk⟩ := List.mem_iff_getElem?.mp he
    obtain ⟨t, a', _, c', _⟩ := T.own k e hk
    have := T.rng t a'
    omega
  · obtain ⟨t, _, _, _, rfl⟩ := hk
    omega
/-- windows of fewer entries are as wide, counted in what is left -/
theorem Tale.wide {z : Int} {es : List En} {fl : List Bool} (hl : fl.length = es.length) {n : Str} {q lo hi lo' hi' : Int} (h : winO z es n q = some (lo, hi)) (h' : winO z (NbQ.keep fl es) n q = some (lo', hi')) (h0 : 0 ≤ lo) (h1 : lo ≤ hi) :
    lo' ≤ (cnt fl lo.toNat : Int) ∧ (cnt fl lo.toNat : Int) ≤ (cnt fl hi.toNat : Int) ∧ (cnt fl hi.toNat : Int) ≤ hi' := by
  unfold winO at h h'
  split at h
  · cases h
  split at h'
  · cases h'
  simp only [Option.some.injEq, Prod.mk.injEq] at h h'
  obtain ⟨rfl, rfl⟩ := h
  obtain ⟨rfl, rfl⟩ := h'
  have a1 := (low_le q z n _ es 0 0 (Int.le_refl _)).mp (Int.le_refl _)
  have a2 := (high_ge q z n _ es 0 (es.length : Int)).mp (Int.le_refl _)
  refine ⟨?_, by have := cnt_mono fl (show (NbW.low q (plc z n 0 es) 0).toNat ≤ (high q (plc z n 0 es) (es.length : Int)).toNat by omega); omega, ?_⟩
  · rw [low_le q z n _ _ 0 0 (Int.le_refl _)]
    refine ⟨by omega, fun i e hi hn hb => ?_⟩
    obtain ⟨k, g1, g2, g3⟩ := keep_get hi
    have := a1.2 k e g1 hn hb
    have := cnt_lt (fl := fl) (show k < (NbW.low q (plc z n 0 es) 0).toNat by omega) g2
    omega
  · rw [high_ge q z n _ _ 0]
    refine ⟨?_, fun i e hi hn hb => ?_⟩
    · have := cnt_mono fl (show (high q (plc z n 0 es) (es.length : Int)).toNat ≤ es.length by omega)
      rw [keep_len hl (Nat.le_refl _)] at this
      omega
    · obtain ⟨k, g1, g2, g3⟩ := keep_get hi
      have := a2.2 k e g1 hn hb
      have := cnt_mono fl (show (high q (plc z n 0 es) (es.length : Int)).toNat ≤ k by omega)
      omega
/-! ### how the law draws one -/
def Takes (H : Hp) : List Addr → List Take → Prop
  | [], [] => True
  | u :: us, t :: ts => H u = some (.tup [.int t.a, .int t.b, .str t.n, .int (t.s : Int)]) ∧ Takes H us ts
  | _, _ => False
theorem Takes.imp {H H' : Hp} (k : ∀ t xs, H t = some (.tup xs) → H' t = some (.tup xs)) : ∀ {us : List Addr} {ts : List Take}, Takes H us ts → Takes H' us ts
  | [], [], _ => trivial
  | _ :: _, _ :: _, h => ⟨k _ _ h.1, Takes.imp k h.2⟩
  | [], _ :: _, h => h.elim
  | _ :: _, [], h => h.elim
theorem Takes.app {H : Hp} {u : Addr} {t : Take} (hu : H u = some (.tup [.int t.a, .int t.b, .str t.n, .int (t.s : Int)])) : ∀ {us : List Addr} {ts : List Take}, Takes H us ts → Takes H (us ++ [u]) (ts ++ [t])
  | [], [], _ => ⟨hu, trivial⟩
  | _ :: _, _ :: _, h => ⟨h.1, Takes.app hu h.2⟩
  | [], _ :: _, h => h.elim
  | _ :: _, [], h => h.elim
theorem Takes.len {H : Hp} : ∀ {us : List Addr} {ts : List Take}, Takes H us ts → us.length = ts.length
  | [], [], _ => rfl
  | _ :: _, _ :: _, h => by rw [List.length_cons, List.length_cons, Takes.len h.2]
  | [], _ :: _, h => h.elim
  | _ :: _, [], h => h.elim
theorem Takes.mem {H : Hp} : ∀ {us : List Addr} {ts : List Take} {u : Addr}, Takes H us ts → u ∈ us → ∃ t ∈ ts, H u = some (.tup [.int t.a, .int t.b, .str t.n, .int (t.s : Int)])
  | u :: us, t :: ts, v, h, g => by
    rcases List.mem_cons.mp g with rfl | g
    · exact ⟨t, List.mem_cons_self, h.1⟩
    · obtain ⟨t', a, b⟩ := Takes.mem h.2 g
      exact ⟨t', List.mem_cons_of_mem _ a, b⟩
  | [], [], _, _, g => nomatch g
  | [], _ :: _, _, h, _ => h.elim
  | _ :: _, [], _, h, _ => h.elim
def HeldX (H : Hp) (dh : Addr) (held : Str → Option (Int × Int)) (j : Nat) : Prop := ∃ kvs : List (Key × V), H dh = some (.dK kvs) ∧ kvs.length ≤ j ∧ ∀ n, (held n = none ∧ valV kvs (.inr n) = none) ∨ ∃ t o d, held n = some (o, d) ∧ valV kvs (.inr n) = some (.ref t) ∧ H t = some (.tup [.int o, .int d])
def putH (held : Str → Option (Int × Int)) (n : Str) (p : Int × Int) : Str → Option (Int × Int) := fun m => if m = n then some p else held m
structure StoryH (H0 H : Hp) (fa s tk dh : Addr) (es : List En) (tks : List Take) (held : Str → Option (Int × Int)) (i : Nat) : Prop where
  st : Stp fa H0 H
  fs : H0 s = none
  ft : H0 tk = none
  fd : H0 dh = none
  nf : s ≠ fa ∧ tk ≠ fa ∧ dh ≠ fa
  nt : s ≠ tk
  en : EntsAt H s es
  tk : ∃ us, H tk = some (.lst (us.map V.ref)) ∧ Takes H us tks ∧ us.length ≤ i
  hd : HeldX H dh held i
section
variable {H0 H H' : Hp} {fa s tk dh : Addr} {es : List En} {tks : List Take} {held : Str → Option (Int × Int)} {i : Nat}
theorem HeldX.imp {j : Nat} (h : HeldX H dh held j) (k1 : ∀ kvs : List (Key × V), H dh = some (.dK kvs) → H' dh = some (.dK kvs)) (k : ∀ t xs, H t = some (.tup xs) → H' t = some (.tup xs)) {j' : Nat} (hj : j ≤ j') : HeldX H' dh held j' := by
  obtain ⟨kvs, a, b, c⟩ := h
  exact ⟨kvs, k1 _ a, Nat.le_trans b hj, fun n => (c n).imp id fun ⟨t, o, d, x, y, w⟩ => ⟨t, o, d, x, y, k _ _ w⟩⟩
theorem StoryH.stp (S : StoryH H0 H fa s tk dh es tks held i) (e : Stp fa H H') : StoryH H0 H' fa s tk dh es tks held i := by
  obtain ⟨us, b1, b2, b3⟩ := S.tk
  have kt : ∀ t xs, H t = some (.tup xs) → H' t = some (.tup xs) := fun t xs h => e.kp _ _ (ne_tup S.st.fd h) h
  exact ⟨S.st.trans e, S.fs, S.ft, S.fd, S.nf, S.nt, S.en.stp S.st.fd e, ⟨us, e.kp _ _ S.nf.2.1 b1, b2.imp kt, b3⟩, S.hd.imp (fun _ h => e.kp _ _ S.nf.2.2 h) kt (Nat.le_refl _)⟩
theorem StoryH.same (S : StoryH H0 H fa s tk dh es tks held i) (e : Same H H') : StoryH H0 H' fa s tk dh es tks held i := S.stp (Stp.of e S.st.fd)
theorem StoryH.up (S : StoryH H0 H fa s tk dh es tks held i) {j : Nat} (hj : i ≤ j) : StoryH H0 H fa s tk dh es tks held j := by
  obtain ⟨us, b1, b2, b3⟩ := S.tk
  exact ⟨S.st, S.fs, S.ft, S.fd, S.nf, S.nt, S.en, ⟨us, b1, b2, Nat.le_trans b3 hj⟩, S.hd.imp (fun _ h => h) (fun _ _ h => h) hj⟩
/-- a take more -/
theorem StoryH.take (S : StoryH H0 H fa s tk dh es tks held i) {us : List Addr} (h : H tk = some (.lst (us.map V.ref))) (ht : Takes H us tks) (hl : us.length ≤ i) {u : Addr} {t : Take} (hu : H u = some (.tup [.int t.a, .int t.b, .str t.n, .int (t.s : Int)])) :
    StoryH H0 (upd H tk (.lst (us.map V.ref ++ [.ref u]))) fa s tk dh es (tks ++ [t]) held (i + 1) := by
  have kt : ∀ t' ys, H t' = some (.tup ys) → upd H tk (.lst (us.map V.ref ++ [.ref u])) t' = some (.tup ys) := fun t ys g => upd_keep g (ne_of g h (by simp))
  obtain ⟨ts, a1, a2⟩ := S.en
  exact ⟨S.st.mut S.ft S.nf.2.1, S.fs, S.ft, S.fd, S.nf, S.nt, ⟨ts, upd_keep a1 S.nt, a2.imp kt⟩, ⟨us ++ [u], by rw [upd_same, List.map_append]; rfl, Takes.app (kt _ _ hu) (ht.imp kt), by rw [List.length_append, List.length_singleton]; omega⟩, S.hd.imp (fun kvs g => upd_keep g (ne_of g h (by simp))) kt (by omega)⟩
theorem StoryH.put (S : StoryH H0 H fa s tk dh es tks held i) {kvs : List (Key × V)} (h : H dh = some (.dK kvs)) (n : Str) {t : Addr} {o d : Int} (ht : H t = some (.tup [.int o, .int d])) :
    StoryH H0 (upd H dh (.dK (putK kvs (.inr n) (.ref t)))) fa s tk dh es tks (putH held n (o, d)) (i + 1) := by
  have kt : ∀ t' ys, H t' = some (.tup ys) → upd H dh (.dK (putK kvs (.inr n) (.ref t))) t' = some (.tup ys) := fun t ys g => upd_keep g (ne_of g h (by simp))
  obtain ⟨ts, a1, a2⟩ := S.en
  obtain ⟨us, b1, b2, b3⟩ := S.tk
  obtain ⟨kv2, c1, c2, c3⟩ := S.hd
  rw [h] at c1
  cases c1
  refine ⟨S.st.mut S.fd S.nf.2.2, S.fs, S.ft, S.fd, S.nf, S.nt, ⟨ts, upd_keep a1 (ne_of a1 h (by simp)), a2.imp kt⟩, ⟨us, upd_keep b1 (ne_of b1 h (by simp)), b2.imp kt, by omega⟩, ⟨_, upd_same, Nat.le_trans (putK_le _ _ _) (by omega), fun m => ?_⟩⟩
  rw [valV_put]
  unfold putH
  by_cases g : m = n
  · subst g
    rw [if_pos rfl, if_pos rfl]
    exact .inr ⟨t, o, d, rfl, rfl, kt _ _ ht⟩
  · rw [if_neg g, if_neg (fun e => g (by injection e))]
    exact (c3 m).imp id fun ⟨t, o, d, x, y, w⟩ => ⟨t, o, d, x, y, kt _ _ w⟩
theorem StoryH.show (S : StoryH H0 H fa s tk dh es tks held i) {xs : List V} (h : H s = some (.lst xs)) {t : Addr} {e : En} (ht : H t = some (.tup [.str e.1, .int e.2])) : StoryH H0 (upd H s (.lst (xs ++ [.ref t]))) fa s tk dh (es ++ [e]) tks held i := by
  obtain ⟨ts, a1, a2⟩ := S.en
  obtain ⟨us, b1, b2, b3⟩ := S.tk
  rw [h] at a1
  cases a1
  have kt : ∀ t' ys, H t' = some (.tup ys) → upd H s (.lst (ts.map V.ref ++ [.ref t])) t' = some (.tup ys) := fun t' ys g => upd_keep g (ne_of g h (by simp))
  exact ⟨S.st.mut S.fs S.nf.1, S.fs, S.ft, S.fd, S.nf, S.nt, ⟨ts ++ [t], by rw [upd_same, List.map_append]; rfl, Ents.app (kt _ _ ht) (a2.imp kt)⟩, ⟨us, upd_keep b1 S.nt.symm, b2.imp kt, b3⟩, S.hd.imp (fun kvs g => upd_keep g (ne_of g h (by simp))) kt (Nat.le_refl _)⟩
end
/-- what is true of it -/
structure Logic (z m : Int) (ns : List Str) (es : List En) (tks : List Take) (held : Str → Option (Int × Int)) (fr : Int) : Prop where
  zp : 1 ≤ z
  len : (es.length : Int) ≤ m
  nm : ∀ e ∈ es, e.1 ∈ ns ∧ 0 ≤ e.2
  tn : ∀ t ∈ tks, t.n ∈ ns
  T : Tale z es tks fr
  f0 : 0 ≤ fr
  hd : ∀ n o d, held n = some (o, d) → 0 ≤ d ∧ d ≤ z ∧ (∃ t ∈ tks, t.n = n ∧ t.b = o) ∧ (∀ t ∈ tks, t.n = n → t.b ≤ o) ∧ ∀ e ∈ es, e.1 = n → e.2 < o * z + d
theorem logic_nil {z m : Int} {ns : List Str} (hz : 1 ≤ z) (hm : 0 ≤ m) : Logic z m ns [] [] (fun _ => none) 0 := ⟨hz, hm, fun _ h => by simp at h, fun _ h => by simp at h, tale_nil z, Int.le_refl _, fun _ _ _ h => nomatch h⟩
section
variable {z m : Int} {ns : List Str} {es : List En} {tks : List Take} {held : Str → Option (Int × Int)} {fr : Int}
theorem Logic.below (L : Logic z m ns es tks held fr) {e : En} (he : e ∈ es) : e.2 < fr * z := by
  obtain ⟨k, hk⟩ := List.mem_iff_getElem?.mp he
  obtain ⟨t, a, _, c, _⟩ := L.T.own k e hk
  have h1 := (L.T.rng t a).2.2
  have h2 := Int.lt_ediv_add_one_mul_self e.2 (show 0 < z by have := L.zp; omega)
  have h3 : (e.2 / z + 1) * z ≤ fr * z := Int.mul_le_mul_of_nonneg_right (by omega) (by have := L.zp; omega)
  omega
theorem Logic.take (L : Logic z m ns es tks held fr) {x : Int} (hx : 0 ≤ x) {n : Str} (hn : n ∈ ns) : Logic z m ns es (tks ++ [⟨fr, fr + (1 + x) - 1, n, es.length⟩]) (putH held n (fr + (1 + x) - 1, 0)) (fr + (1 + x)) := by
  have hzp := L.zp
  refine ⟨L.zp, L.len, L.nm, fun t ht => ?_, L.T.take L.f0 (by omega) n, by have := L.f0; omega, fun n' o d h => ?_⟩
  · rcases List.mem_append.mp ht with h | h
    · exact L.tn t h
    · rw [List.mem_singleton.mp h]
      exact hn
  · unfold putH at h
    by_cases g : n' = n
    · rw [if_pos g] at h
      cases h
      refine ⟨Int.le_refl _, by omega, ⟨_, List.mem_append_right _ List.mem_cons_self, g.symm, rfl⟩, fun t ht _ => ?_, fun e he _ => ?_⟩
      · rcases List.mem_append.mp ht with h | h
        · have := (L.T.rng t h).2.2
          omega
        · rw [List.mem_singleton.mp h]
          exact Int.le_refl _
      · have h1 := L.below he
        have h2 : fr * z ≤ (fr + (1 + x) - 1) * z := Int.mul_le_mul_of_nonneg_right (by omega) (by omega)
        omega
    · rw [if_neg g] at h
      obtain ⟨a, b, ⟨t, c1, c2⟩, c, e⟩ := L.hd n' o d h
      refine ⟨a, b, ⟨t, List.mem_append_left _ c1, c2⟩, fun t ht hn' => ?_, e⟩
      rcases List.mem_append.mp ht with h | h
      · exact c t h hn'
      · rw [List.mem_singleton.mp h] at hn'
        exact absurd hn'.symm g
theorem Logic.hold (L : Logic z m ns es tks held fr) {n : Str} {o d x : Int} (h : held n = some (o, d)) (h1 : d ≤ x) (h2 : x < z) : Logic z m ns es tks (putH held n (o, x + 1)) fr := by
  refine ⟨L.zp, L.len, L.nm, L.tn, L.T, L.f0, fun n' o' d' h' => ?_⟩
  unfold putH at h'
  by_cases g : n' = n
  · rw [if_pos g] at h'
    cases h'
    subst g
    obtain ⟨a, b, c, e, f⟩ := L.hd n' _ d h
    exact ⟨by omega, by omega, c, e, fun e he hn => by have := f e he hn; omega⟩
  · rw [if_neg g] at h'
    exact L.hd n' o' d' h'
theorem Logic.show (L : Logic z m ns es tks held fr) {n : Str} {o d x : Int} (h : held n = some (o, d)) (h1 : d ≤ x) (h2 : x < z) (hn : n ∈ ns) (hl : (es.length : Int) < m) (h0 : 0 ≤ o) : Logic z m ns (es ++ [(n, o * z + x)]) tks (putH held n (o, x + 1)) fr := by
  have L2 := L.hold h h1 h2
  obtain ⟨a, b, ⟨t, c1, c2, c3⟩, e, f⟩ := L.hd n o d h
  have hzp := L.zp
  have hb : (o * z + x) / z = o := by
    rw [Int.add_comm, Int.add_mul_ediv_right _ _ (by omega), Int.ediv_eq_zero_of_lt (by omega) h2, Int.zero_add]
  refine ⟨L.zp, by rw [List.length_append, List.length_singleton]; omega, fun e' he => ?_, L.tn, L.T.show (e := (n, o * z + x)) c1 c2 (by rw [hb]; exact c3) (fun t ht hn => by rw [hb]; exact e t ht hn) (fun g hg hn => by have := f g hg hn; show g.2 < o * z + x; omega), L.f0, fun n' o' d' h' => ?_⟩
  · rcases List.mem_append.mp he with g | g
    · exact L.nm e' g
    · rw [List.mem_singleton.mp g]
      exact ⟨hn, Int.add_nonneg (Int.mul_nonneg h0 (by omega)) (by omega)⟩
  · obtain ⟨a2, b2, c2, e2, f2⟩ := L2.hd n' o' d' h'
    refine ⟨a2, b2, c2, e2, fun e' he hn' => ?_⟩
    rcases List.mem_append.mp he with g | g
    · exact f2 e' g hn'
    · rw [List.mem_singleton.mp g] at hn' ⊢
      have hq : n = n' := hn'
      subst hq
      unfold putH at h'
      rw [if_pos rfl] at h'
      cases h'
      show o * z + x < o * z + (x + 1)
      omega
end
def TakesAt (H : Hp) (t : Addr) (tks : List Take) : Prop := ∃ us, H t = some (.lst (us.map V.ref)) ∧ Takes H us tks ∧ us.length ≤ 2000
theorem TakesAt.same {H H' : Hp} {t : Addr} {tks : List Take} (h : TakesAt H t tks) (e : Same H H') : TakesAt H' t tks := by
  obtain ⟨us, a, b, c⟩ := h
  exact ⟨us, e _ _ a, b.imp fun _ _ g => e _ _ g, c⟩
theorem TakesAt.stp {fa : Addr} {H H' : Hp} {t : Addr} {tks : List Take} (f : Feed H fa) (h : TakesAt H t tks) (e : Stp fa H H') : TakesAt H' t tks := by
  obtain ⟨us, a, b, c⟩ := h
  exact ⟨us, e.kp _ _ (ne_refs f a) a, b.imp fun _ _ g => e.kp _ _ (ne_tup f g) g, c⟩
def sp_law_story (_ : PySem.W.Frag) : Sp := fun vs H Q _ => ∃ (fa c : Addr) (z m f : Int) (ns : List Str), vs = [.ref fa, .int z, .ref c, .int m, .int f] ∧ Feed H fa ∧ CrewAt H c ns ∧ Crew ns ∧ SizeOk z ∧ 0 ≤ m ∧ m ≤ 200 ∧ 0 < f ∧ f ≤ 10 ^ 100 ∧
  ∀ r s t es tks fr H', H r = none → Stp fa H H' → H' r = some (.lst [.ref s, .ref t]) → EntsAt H' s es → (es.length : Int) ≤ m → (∀ e ∈ es, e.1 ∈ ns ∧ 0 ≤ e.2) → TakesAt H' t tks → Tale z es tks fr → (∀ t ∈ tks, t.n ∈ ns) → (∀ e ∈ es, e.2 < 601 * (f + 4) * z) → Q (.ref r) H'
end NbQ

set_option Elab.async false
set_option linter.all false
set_option maxRecDepth 100000
set_option maxHeartbeats 4000000
/-! Chains of three comparisons; comprehensions over zip and over tuples. -/
namespace NbC
open PySem PySem.Spec PyProof.Rows L2 Nb NbE NbS NbF NbP NbK NbL NbX NbW NbZ NbM NbQ
/-! the scope of a comprehension that holds another one -/
def bAt (b : List Stmt) (i : Nat) : Stmt := b.getD i (.Pass ⟨0, 0, 0, 0⟩)
def forB : Stmt → List Stmt
  | .For _ _ b _ _ => b
  | _ => []
def ifB : Stmt → List Stmt
  | .If _ b _ _ => b
  | _ => []
def elB : Stmt → List Stmt
  | .If _ _ b _ => b
  | _ => []
def asgV : Stmt → Expr
  | .Assign _ v _ => v
  | .Return (some v) _ => v
  | _ => .Constant .none 0 ⟨0, 0, 0, 0⟩
def lcSc : Expr → Scope
  | .ListComp _ _ s _ => s
  | _ => { kind := .function, names := [], isGenerator := false, isCoroutine := false }
def lcEl : Expr → Expr
  | .ListComp e _ _ _ => e
  | e => e
/-- a op1 b op2 c op3 d -/
def tChain3 (r r' r2 : R2) (ta tb tc td : TE) : TE := fun σ H Q => ta σ H fun x H1 => tb σ H1 fun y H2 => r x y H2 fun z H3 => ∃ k, z = .bl k ∧
  (if k = true then tc σ H3 fun w H4 => r' y w H4 fun z2 H5 => ∃ k2, z2 = .bl k2 ∧ (if k2 = true then td σ H5 fun w2 H6 => r2 w w2 H6 Q else Q (.bl false) H5) else Q (.bl false) H3)
section
variable {X : Cx} {a b c d : Expr} {ta tb tc td : TE} {pos : Pos}
theorem pt_chain3 {op op' op2 : CmpOp} {r r' r2 : R2} (ho : OpR X (compareOp op) r) (ho' : OpR X (compareOp op') r') (ho2 : OpR X (compareOp op2) r2) (ha : PE X a ta) (hb : PE X b tb) (hc : PE X c tc) (hd : PE X d td)
    (hm : lastMarks [op, op', op2] [b, c, d] = false := by with_unfolding_all rfl) : PT X (.Compare a [op, op', op2] [b, c, d] pos) (tTest (tChain3 r r' r2 ta tb tc td)) := by
  refine ⟨fun pins s σ H Q I h => ?_⟩
  refine isTrue_chain (thn (ha.run pins s σ H _ I h) fun v s1 ⟨x, H1, I1, r1, q1⟩ => test_link (thn (hb.run pins s1 σ H1 _ I1 q1) fun u s2 ⟨y, H2, I2, r2, q2⟩ =>
    thn (ho pins s2 σ H2 x y v u _ I2 r1 r2 q2) fun d s3 ⟨z, H3, I3, r3, k, e, q3⟩ => ?_)) hm
  subst e
  cases r3
  refine wpAny_truthy_bool ?_
  cases k with
  | false =>
    obtain ⟨k', e', q'⟩ := q3
    cases e'
    exact ite_ff ⟨H3, I3, q'⟩
  | true =>
    refine ite_tt (test_link (thn (hc.run pins s3 σ H3 _ I3 q3) fun w' s4 ⟨z', H4, I4, r4, q4⟩ => thn (ho' pins s4 σ H4 y z' u w' _ I4 r2 r4 q4) fun d' s5 ⟨z2, H5, I5, r5, k2, e2, q5⟩ => ?_))
    subst e2
    cases r5
    refine wpAny_truthy_bool ?_
    cases k2 with
    | false =>
      obtain ⟨k', e', q'⟩ := q5
      cases e'
      exact ite_ff ⟨H5, I5, q'⟩
    | true =>
      refine ite_tt (test_last (thn (hd.run pins s5 σ H5 _ I5 q5) fun w'' s6 ⟨z3, H6, I6, r6, q6⟩ => thn (ho2 pins s6 σ H6 z' z3 w' w'' _ I6 r4 r6 q6) fun d'' s7 ⟨z4, H7, I7, r7, k3, e3, q7⟩ => ?_))
      subst e3
      cases r7
      exact wpAny_truthy_bool ⟨H7, I7, q7⟩
end
section
variable {K : PySem.W.Frag} {a b L : Addr} {g : TG} {tt : TT} {te : TE} {vs : List Nat} {σ : L2.St} {H : Hp} {Q : VK}
theorem comp_tup (xs : List V) (Pv : Nat → Hp → Prop) (h0 : Pv 0 (upd H L (.lst []))) (hl : ∀ i H', i ≤ xs.length → Pv i H' → SqT K H' a xs)
    (hs : ∀ (i : Nat) x H', xs[i]? = some x → Pv i H' → g x (wipe σ vs) H' fun σ2 H2 => wipe σ2 vs = wipe σ vs ∧ tt σ2 H2 fun b H3 =>
      if b = true then te σ2 H3 fun y H4 => ∃ acc, H4 L = some (.lst acc) ∧ acc.length < sizeLine ∧ Pv (i + 1) (upd H4 L (.lst (acc ++ [y]))) else Pv (i + 1) H3) (hd : ∀ H', Pv xs.length H' → Q (.ref L) H') : CompR (Itt K a) g tt te vs σ H L Q :=
  lc_tup (xs := xs) Pv h0 hl hs hd
theorem comp_zip (xs ys : List V) (Pv : Nat → Hp → Prop) (h0 : Pv 0 (upd H L (.lst []))) (hl : ∀ i H', Pv i H' → SqL K H' a xs ∧ SqL K H' b ys)
    (hs : ∀ (i : Nat) x y H' T, xs[i]? = some x → ys[i]? = some y → Pv i H' → H' T = none → g (.ref T) (wipe σ vs) (upd H' T (.tup [x, y])) fun σ2 H2 => wipe σ2 vs = wipe σ vs ∧ tt σ2 H2 fun b H3 =>
      if b = true then te σ2 H3 fun y H4 => ∃ acc, H4 L = some (.lst acc) ∧ acc.length < sizeLine ∧ Pv (i + 1) (upd H4 L (.lst (acc ++ [y]))) else Pv (i + 1) H3) (hd : ∀ H', Pv (min xs.length ys.length) H' → Q (.ref L) H') : CompR (Itz K a b) g tt te vs σ H L Q := by
  refine ⟨fun i m H => m = min xs.length ys.length - i ∧ i ≤ min xs.length ys.length ∧ Pv i H, ⟨_, rfl, Nat.zero_le _, h0⟩, ?_⟩
  rintro i m H ⟨rfl, hi, p⟩
  obtain ⟨q1, q2⟩ := hl i H p
  by_cases hlt : i < min xs.length ys.length
  · have h1 : i < xs.length := by omega
    have h2 : i < ys.length := by omega
    refine .inr ⟨⟨xs, ys, xs[i], ys[i], q1, q2, by simp [h1], by simp [h2]⟩, Pv (i + 1), fun H' p' => ⟨_, by omega, rfl, by omega, p'⟩, fun x H' y => ?_⟩
    obtain ⟨T, x', y', rfl, hT, rfl, z1, z2⟩ := y
    exact hs i x' y' H T (z1 xs q1) (z2 ys q2) p hT
  · have e : i = min xs.length ys.length := by omega
    subst e
    exact .inl ⟨⟨xs, ys, q1, q2, by omega⟩, hd H p⟩
end
theorem pi_listK {X : Cx} {K : PySem.W.Frag} {tg e : Expr} {ta : TE} (hK : X.K = K) (h : PE X e ta) : PI X tg e (iList K ta) := by
  rw [← hK]
  exact pi_list h
theorem keep_snoc {α : Type} (b : Bool) (e : α) : ∀ {fl : List Bool} {es : List α}, fl.length = es.length → NbQ.keep (fl ++ [b]) (es ++ [e]) = NbQ.keep fl es ++ (if b = true then [e] else [])
  | [], [], _ => by cases b <;> rfl
  | x :: fl, y :: es, h => by
    have ih := keep_snoc b e (fl := fl) (es := es) (by simpa using h)
    cases x
    · simpa [NbQ.keep] using ih
    · simp [NbQ.keep, ih]
  | [], _ :: _, h => by simp at h
  | _ :: _, [], h => by simp at h
theorem keep_step {α : Type} {fl : List Bool} {es : List α} {i : Nat} {b : Bool} {e : α} (hb : fl[i]? = some b) (he : es[i]? = some e) : NbQ.keep (fl.take (i + 1)) (es.take (i + 1)) = NbQ.keep (fl.take i) (es.take i) ++ (if b = true then [e] else []) := by
  have h1 := (List.getElem?_eq_some_iff.mp hb).1
  have h2 := (List.getElem?_eq_some_iff.mp he).1
  have e1 : fl.take (i + 1) = fl.take i ++ [b] := by
    rw [List.take_add_one, hb]
    rfl
  have e2 : es.take (i + 1) = es.take i ++ [e] := by
    rw [List.take_add_one, he]
    rfl
  rw [e1, e2, keep_snoc b e (by rw [List.length_take, List.length_take]; omega)]
theorem mem_keep {α : Type} {e : α} : ∀ {fl : List Bool} {es : List α}, e ∈ NbQ.keep fl es → e ∈ es
  | [], _, h => by simp [NbQ.keep] at h
  | _ :: _, [], h => by simp [NbQ.keep] at h
  | true :: fl, x :: es, h => by
    rcases List.mem_cons.mp (show e ∈ x :: NbQ.keep fl es by simpa [NbQ.keep] using h) with rfl | h
    · exact List.mem_cons_self
    · exact List.mem_cons_of_mem _ (mem_keep h)
  | false :: fl, x :: es, h => List.mem_cons_of_mem _ (mem_keep (fl := fl) (by simpa [NbQ.keep] using h))
theorem len_keep {α : Type} : ∀ (fl : List Bool) (es : List α), (NbQ.keep fl es).length ≤ es.length
  | [], _ => by simp [NbQ.keep]
  | _ :: _, [] => by simp [NbQ.keep]
  | true :: fl, x :: es => by simpa [NbQ.keep] using len_keep fl es
  | false :: fl, x :: es => by
    have := len_keep fl es
    simp only [NbQ.keep, Bool.false_eq_true, if_false, List.length_cons]
    omega
theorem keep_front {α : Type} : ∀ (es : List α) (n : Nat), n ≤ es.length → NbQ.keep (List.replicate n true ++ List.replicate (es.length - n) false) es = es.take n
  | [], n, h => by simp [NbQ.keep]
  | x :: es, 0, _ => by
    have ih := keep_front es 0 (Nat.zero_le _)
    simp only [List.replicate_zero, List.nil_append, Nat.sub_zero, List.length_cons, List.replicate_succ, NbQ.keep, List.take_zero] at ih ⊢
    simpa using ih
  | x :: es, n + 1, h => by
    have ih := keep_front es n (by simpa using h)
    rw [List.replicate_succ, List.cons_append, List.take_succ_cons, List.length_cons, Nat.add_sub_add_right]
    show x :: NbQ.keep _ es = _
    rw [ih]
theorem Tale.front {z : Int} {es : List En} {tk : List Take} {fr : Int} {ns : List Str} (T : Tale z es tk fr) (hn : ∀ t ∈ tk, t.n ∈ ns) (n : Nat) (h : n ≤ es.length) : obsD z ns (es.take n) = .none := by
  have T2 := T.keep (fl := List.replicate n true ++ List.replicate (es.length - n) false) (by rw [List.length_append, List.length_replicate, List.length_replicate]; omega)
  rw [keep_front es n h] at T2
  refine T2.obs fun t ht => ?_
  obtain ⟨u, hu, rfl⟩ := List.mem_map.mp ht
  exact hn u hu
theorem wf_keep {z : Int} {ns : List Str} {es : List En} (h : WF z ns es) (fl : List Bool) : WF z ns (NbQ.keep fl es) := wf_sub h (Nat.le_trans (len_keep fl es) h.en.few) fun e he => mem_keep he
theorem cnt_step {fl : List Bool} {i : Nat} {b : Bool} (h : fl[i]? = some b) : (fl.take (i + 1)).filter id = (fl.take i).filter id ++ (if b = true then [true] else []) := by
  rw [List.take_add_one, h, List.filter_append]
  cases b <;> rfl
/-- a log made, told by its address -/
theorem mk_at {K : PySem.W.Frag} {H : Hp} {Pn : Addr → Hp → Prop} {b : Bool} {z : Int} {c s : Addr} {ns : List Str} {es : List En} (hw : WF z ns es) (hc : CrewAt H c ns) (hs : EntsAt H s es) (q : ∀ x H', H x = none → Same H H' → LogAt K H' x b z ns es → Pn x H') :
    ∀ x dx : Addr, H x = none → H dx = none → dx ≠ x → sp_Log_init K [.ref x, .int z, .ref c, .ref s] (upd (upd H dx (.own x)) x (.ins (C2 K b) dx [])) (fun v H2 => v = .non ∧ Pn x H2) C8.E0 := by
  intro x dx hx hd hn
  obtain ⟨p', dx', b', z', c', s', ns', es', h1, h2, h3, h4, h5, h6⟩ := mk_newX (K := K) (Q := fun v H2 => ∀ a, v = .ref a → Pn a H2) (b := b) hw hc hs (fun x H' ls le hx e h _ _ a ea => by
    cases ea
    exact q _ _ hx e h.log) x dx hx hd hn
  refine ⟨p', dx', b', z', c', s', ns', es', h1, h2, h3, h4, h5, fun H' ls le k hl h7 h8 => ?_⟩
  obtain ⟨g1, g2⟩ := h6 H' ls le k hl h7 h8
  exact ⟨g1, g2 x rfl⟩
end NbC
namespace NbC
open PySem PySem.Spec PyProof.Rows L2 Nb NbE NbS NbF NbP NbK NbL NbX NbW NbZ NbM NbQ
/-- [flag for flag in flags[:at] if flag] -/
theorem comp_cnt {K : PySem.W.Frag} {H0 : Hp} {l : Addr} {fl : List Bool} {i : Nat} {σ : L2.St} (hi : i < σ.length) (hl : H0 l = some (.lst (fl.map V.bl))) (hf : fl.length ≤ 200) (s : Nat) {Q : Int → Hp → Prop} (q : ∀ H', Same H0 H' → Q (cnt fl s : Int) H') :
    rSlL K (.ref l) none (some (s : Int)) H0 fun v H1 => ∃ a, v = .ref a ∧ (∃ xs, SqL K H1 a xs) ∧ ∀ L, H1 L = none → CompR (Itl K a) (gName i) (tB (tVar i)) (tVar i) [i] σ H1 L fun x H2 => ∃ p, x = .ref p ∧ ∃ xs : List V, (SqL K H2 p xs ∨ SqT K H2 p xs) ∧ Q (xs.length : Int) H2 := by
  refine ⟨l, _, rfl, SqL.of hl, fun p hp => ⟨p, rfl, ⟨_, SqL.of upd_same⟩, fun L hL => ?_⟩⟩
  have e1 := Same.new (o := .lst (cutV (fl.map V.bl) none (some (s : Int)))) (Same.refl H0) hp
  have hp1 : upd H0 p (.lst (cutV (fl.map V.bl) none (some (s : Int)))) p = some (.lst ((fl.take s).map V.bl)) := by rw [upd_same, cut_to', List.map_take]
  generalize upd H0 p (.lst (cutV (fl.map V.bl) none (some (s : Int)))) = H1 at e1 hp1 hL ⊢
  refine comp_list ((fl.take s).map V.bl) (fun j H' => Same H1 H' ∧ H' L = some (.lst ((((fl.take s).take j).filter id).map V.bl))) ⟨Same.new (Same.refl _) hL, upd_same⟩ (fun j H' _ k => SqL.of (k.1 _ _ hp1)) ?_ ?_
  · rintro j x H' hj ⟨e, g1⟩
    rw [List.getElem?_map] at hj
    obtain ⟨b, hb, rfl⟩ := Option.map_eq_some_iff.mp hj
    rw [cnt_step hb]
    have hlt := (List.getElem?_eq_some_iff.mp hb).1
    rw [List.length_take] at hlt
    have w1 : wipe ((wipe σ [i]).set i (some (V.bl b))) [i] = wipe σ [i] := by
      simp only [wipe, List.set_set]
    have w2 : ((wipe σ [i]).set i (some (V.bl b)))[i]? = some (some (V.bl b)) := by
      rw [List.getElem?_set_self]
      rw [wipe_length]
      exact hi
    refine ⟨w1, .bl b, w2, b, rfl, ?_⟩
    cases b with
    | true =>
      refine ifP rfl ⟨.bl true, w2, _, g1, sz_lt ?_, Nb.Same.mut e hL, ?_⟩
      · rw [List.length_map]
        exact Nat.lt_of_le_of_lt (List.length_filter_le _ _) (by rw [List.length_take, List.length_take]; omega)
      · rw [upd_same, List.map_append]
        rfl
    | false =>
      refine ifN (by decide) ⟨e, ?_⟩
      rw [g1]
      simp
  · rintro H' ⟨e, g1⟩
    rw [List.length_map, List.take_length] at g1
    refine ⟨L, rfl, _, .inl (SqL.of g1), ?_⟩
    rw [List.length_map]
    exact q _ (e1.trans e)
/-! ### tales -/
def sp_law_bent (_ : PySem.W.Frag) : Sp := fun vs H Q _ => ∃ (fa s c : Addr) (z : Int) (ns : List Str) (es : List En), vs = [.ref fa, .ref s, .int z, .ref c] ∧ Feed H fa ∧ EntsAt H s es ∧ CrewAt H c ns ∧ WF z ns es ∧ ∃ B : Int, 0 < B ∧ (∀ e ∈ es, e.2 < B) ∧ ∀ l es' H', H l = none → Stp fa H H' → EntsAt H' l es' → WF z ns es' → (∀ e ∈ es', e.2 < B + 3 * (2 * z)) → es'.length ≤ es.length + 3 → Q (.ref l) H'
def sp_law_tale (_ : PySem.W.Frag) : Sp := fun vs H Q _ => ∃ (fa : Addr) (m : Int), vs = [.ref fa, .int m] ∧ Feed H fa ∧ 0 ≤ m ∧ m ≤ 200 ∧ ∀ l (u : Int) c s ns es H', H l = none → Stp fa H H' → H' l = some (.lst [.int u, .ref c, .ref s]) → CrewAt H' c ns → EntsAt H' s es → WF u ns es → (∀ x ∈ ns, x ∈ N12) → (∀ e ∈ es, e.2 < 10 ^ 60) → (es.length : Int) ≤ m + 3 → Q (.ref l) H'
/-- a list of so many allowed entries -/
def Gd (ns : En → Prop) (n : Nat) (H : Hp) (a : Addr) : Prop := ∃ es, EntsAt H a es ∧ es.length ≤ n ∧ ∀ e ∈ es, ns e
section
variable {K : PySem.W.Frag} {ns : En → Prop} {n m k : Nat} {H H' : Hp} {a b : Addr} {Q : VK}
theorem Gd.same (h : Gd ns n H a) (e : Same H H') : Gd ns n H' a := by
  obtain ⟨es, h1, h2⟩ := h
  exact ⟨es, h1.same e, h2⟩
theorem Gd.stp {fa : Addr} (h : Gd ns n H a) (f : Feed H fa) (e : Stp fa H H') : Gd ns n H' a := by
  obtain ⟨es, h1, h2⟩ := h
  exact ⟨es, h1.stp f e, h2⟩
theorem gd_to (h : Gd ns n H a) (q : ∀ l H', H l = none → Same H H' → Gd ns n H' l → Q (.ref l) H') : rSlL K (.ref a) none (some (k : Int)) H Q := by
  obtain ⟨es, h1, h2, h3⟩ := h
  exact sl_to h1 fun l H' hl e h => q l H' hl e ⟨_, h, Nat.le_trans (List.length_take_le' _ _) h2, fun x hx => h3 x (List.mem_of_mem_take hx)⟩
theorem gd_from (h : Gd ns n H a) (q : ∀ l H', H l = none → Same H H' → Gd ns n H' l → Q (.ref l) H') : rSlL K (.ref a) (some (k : Int)) none H Q := by
  obtain ⟨es, h1, h2, h3⟩ := h
  exact sl_from h1 fun l H' hl e h => q l H' hl e ⟨_, h, by rw [List.length_drop]; omega, fun x hx => h3 x (List.mem_of_mem_drop hx)⟩
theorem gd_from1 (h : Gd ns n H a) (q : ∀ l H', H l = none → Same H H' → Gd ns n H' l → Q (.ref l) H') : rSlL K (.ref a) (some ((k : Int) + 1)) none H Q := by
  have e : (k : Int) + 1 = ((k + 1 : Nat) : Int) := by omega
  rw [e]
  exact gd_from h q
theorem gd_both1 (h : Gd ns n H a) (q : ∀ l H', H l = none → Same H H' → Gd ns n H' l → Q (.ref l) H') : rSlL K (.ref a) (some (k : Int)) (some ((k : Int) + 1)) H Q := by
  obtain ⟨es, h1, h2, h3⟩ := h
  exact sl_both (n := 1) h1 fun l H' hl e h => q l H' hl e ⟨_, h, by rw [List.length_take, List.length_drop]; omega, fun x hx => h3 x (List.mem_of_mem_drop (List.mem_of_mem_take hx))⟩
theorem gd_cat (h : Gd ns n H a) (h' : Gd ns m H b) (hn : n + m ≤ 5000) (q : ∀ l H', H l = none → Same H H' → Gd ns (n + m) H' l → Q (.ref l) H') : rCat (.ref a) (.ref b) H Q := by
  obtain ⟨es, h1, h2, h3⟩ := h
  obtain ⟨fs, g1, g2, g3⟩ := h'
  refine cat_ents h1 g1 (by omega) fun l H' hl e h => q l H' hl e ⟨_, h, by rw [List.length_append]; omega, fun x hx => ?_⟩
  rcases List.mem_append.mp hx with g | g
  · exact h3 x g
  · exact g3 x g
theorem gd_one {t p : Addr} {e : En} (ht : H t = some (.tup [.str e.1, .int e.2])) (he : ns e) (hp : H p = none) : Gd ns 1 (upd H p (.lst [.ref t])) p := by
  refine ⟨[e], ⟨[t], upd_same, upd_keep ht (ne_of_none ht hp), trivial⟩, Nat.le_refl _, fun x hx => ?_⟩
  rw [List.mem_singleton.mp hx]
  exact he
/-- .. of just so many -/
def Gx (ns : En → Prop) (n : Nat) (H : Hp) (a : Addr) : Prop := ∃ es, EntsAt H a es ∧ es.length = n ∧ ∀ e ∈ es, ns e
theorem Gx.same (h : Gx ns n H a) (e : Same H H') : Gx ns n H' a := by
  obtain ⟨es, h1, h2⟩ := h
  exact ⟨es, h1.same e, h2⟩
theorem Gx.gd (h : Gx ns n H a) (hm : n ≤ m) : Gd ns m H a := by
  obtain ⟨es, h1, h2, h3⟩ := h
  exact ⟨es, h1, by omega, h3⟩
theorem gx_to (h : Gx ns n H a) (q : ∀ l H', H l = none → Same H H' → Gx ns (min k n) H' l → Q (.ref l) H') : rSlL K (.ref a) none (some (k : Int)) H Q := by
  obtain ⟨es, h1, h2, h3⟩ := h
  exact sl_to h1 fun l H' hl e h => q l H' hl e ⟨_, h, by rw [List.length_take, h2], fun x hx => h3 x (List.mem_of_mem_take hx)⟩
theorem gx_from (h : Gx ns n H a) (q : ∀ l H', H l = none → Same H H' → Gx ns (n - k) H' l → Q (.ref l) H') : rSlL K (.ref a) (some (k : Int)) none H Q := by
  obtain ⟨es, h1, h2, h3⟩ := h
  exact sl_from h1 fun l H' hl e h => q l H' hl e ⟨_, h, by rw [List.length_drop]; omega, fun x hx => h3 x (List.mem_of_mem_drop hx)⟩
theorem gx_from1 (h : Gx ns n H a) (q : ∀ l H', H l = none → Same H H' → Gx ns (n - (k + 1)) H' l → Q (.ref l) H') : rSlL K (.ref a) (some ((k : Int) + 1)) none H Q := by
  have e : (k : Int) + 1 = ((k + 1 : Nat) : Int) := by omega
  rw [e]
  exact gx_from h q
theorem gx_both1 (h : Gx ns n H a) (q : ∀ l H', H l = none → Same H H' → Gx ns (min 1 (n - k)) H' l → Q (.ref l) H') : rSlL K (.ref a) (some (k : Int)) (some ((k : Int) + 1)) H Q := by
  obtain ⟨es, h1, h2, h3⟩ := h
  exact sl_both (n := 1) h1 fun l H' hl e h => q l H' hl e ⟨_, h, by rw [List.length_take, List.length_drop]; omega, fun x hx => h3 x (List.mem_of_mem_drop (List.mem_of_mem_take hx))⟩
theorem gx_cat (h : Gx ns n H a) (h' : Gx ns m H b) (hn : n + m ≤ 5000) (q : ∀ l H', H l = none → Same H H' → Gx ns (n + m) H' l → Q (.ref l) H') : rCat (.ref a) (.ref b) H Q := by
  obtain ⟨es, h1, h2, h3⟩ := h
  obtain ⟨fs, g1, g2, g3⟩ := h'
  refine cat_ents h1 g1 (by omega) fun l H' hl e h => q l H' hl e ⟨_, h, by rw [List.length_append]; omega, fun x hx => ?_⟩
  rcases List.mem_append.mp hx with g | g
  · exact h3 x g
  · exact g3 x g
theorem gx_one {t p : Addr} {e : En} (ht : H t = some (.tup [.str e.1, .int e.2])) (he : ns e) (hp : H p = none) : Gx ns 1 (upd H p (.lst [.ref t])) p := by
  refine ⟨[e], ⟨[t], upd_same, upd_keep ht (ne_of_none ht hp), trivial⟩, rfl, fun x hx => ?_⟩
  rw [List.mem_singleton.mp hx]
  exact he
theorem gd_wf {es : List En} (hl : es.length ≤ 200) (h : ∀ e ∈ es, ns e) (hs : EntsAt H a es) : Gd ns 200 H a := ⟨es, hs, hl, h⟩
theorem Gd.mono (h : Gd ns n H a) (hm : n ≤ m) : Gd ns m H a := by
  obtain ⟨es, h1, h2, h3⟩ := h
  exact ⟨es, h1, Nat.le_trans h2 hm, h3⟩
theorem Gd.put {o : HO} {xs : List V} (h : Gd ns n H a) (hb : H b = some (.lst xs)) (ne : a ≠ b) : Gd ns n (upd H b o) a := by
  obtain ⟨es, ⟨ts, h1, h1'⟩, h2, h3⟩ := h
  exact ⟨es, ⟨ts, upd_keep h1 ne, h1'.imp fun t ys g => upd_keep g (ne_of g hb (by simp))⟩, h2, h3⟩
/-- a list of entries is no list of lists -/
theorem Gd.ne {x : Addr} {r : List V} (h : Gd ns n H a) (hx : Gd ns m H x) (hb : H b = some (.lst (.ref x :: r))) : a ≠ b := by
  rintro rfl
  obtain ⟨es, ⟨ts, h1, h1'⟩, h2, h3⟩ := h
  obtain ⟨fs, ⟨us, g1, _⟩, _⟩ := hx
  rw [hb] at h1
  cases ts with
  | nil => cases h1
  | cons t ts =>
    simp only [List.map_cons, Option.some.injEq, HO.lst.injEq, List.cons.injEq, V.ref.injEq] at h1
    obtain ⟨rfl, _⟩ := h1
    cases es with
    | nil => exact h1'.elim
    | cons e es =>
      have := h1'.1
      rw [g1] at this
      cases this
end
end NbC

set_option Elab.async false
set_option linter.all false
set_option maxRecDepth 100000
set_option maxHeartbeats 4000000
/-! Entries that bar one another, as the law finds them. -/
namespace NbG
open PySem PySem.Spec PyProof.Rows L2 Nb NbE NbS NbF NbP NbK NbL NbX NbW NbZ NbM NbQ NbC
/-- no number twice, no block of two servers, the numbers of each server ascend -/
structure Fine (z : Int) (es : List En) : Prop where
  two : es.Pairwise fun e f => e.2 ≠ f.2
  sha : es.Pairwise fun e f => e.2 / z = f.2 / z → e.1 = f.1
  bac : es.Pairwise fun e f => e.1 = f.1 → e.2 ≤ f.2
theorem pw_idx {R : En → En → Prop} {es : List En} : es.Pairwise R ↔ ∀ (i j : Nat) (e f : En), i < j → es[i]? = some e → es[j]? = some f → R e f := by
  rw [List.pairwise_iff_getElem]
  constructor
  · intro h i j e f hij hi hj
    obtain ⟨i1, i2⟩ := List.getElem?_eq_some_iff.mp hi
    obtain ⟨j1, j2⟩ := List.getElem?_eq_some_iff.mp hj
    have := h i j i1 j1 hij
    rw [i2, j2] at this
    exact this
  · intro h i j hi hj hij
    exact h i j _ _ hij (List.getElem?_eq_getElem hi) (List.getElem?_eq_getElem hj)
theorem Fine.bar {z : Int} {es : List En} (F : Fine z es) : barD z es = .none := by
  unfold barD
  rw [twO_none es [] (pw_idx.mp F.two)]
  simp only
  rw [shO_none z es [] (pw_idx.mp F.sha)]
  simp only
  rw [baO_none es [] (pw_idx.mp F.bac)]
  rfl
theorem twO_pw : ∀ (r pre : List En), pre.Pairwise (fun e f => e.2 ≠ f.2) → twO pre r = none → (pre ++ r).Pairwise fun e f => e.2 ≠ f.2
  | [], pre, hp, _ => by rw [List.append_nil]; exact hp
  | e :: r, pre, hp, h => by
    rw [twO_cons] at h
    cases hf : pre.findIdx? (fun x => decide (x.2 = e.2)) with
    | some i =>
      rw [hf] at h
      cases h
    | none =>
      rw [hf] at h
      have hn := List.findIdx?_eq_none_iff.mp hf
      have := twO_pw r (pre ++ [e]) (by
        rw [List.pairwise_append]
        refine ⟨hp, by simp, fun x hx y hy => ?_⟩
        rw [List.mem_singleton.mp hy]
        simpa using hn x hx) h
      rw [List.append_assoc] at this
      exact this
theorem shO_pw (z : Int) : ∀ (r pre : List En), pre.Pairwise (fun e f => e.2 / z = f.2 / z → e.1 = f.1) → shO z pre r = none → (pre ++ r).Pairwise fun e f => e.2 / z = f.2 / z → e.1 = f.1
  | [], pre, hp, _ => by rw [List.append_nil]; exact hp
  | e :: r, pre, hp, h => by
    rw [shO_cons] at h
    have key : (∀ x ∈ pre, x.2 / z = e.2 / z → x.1 = e.1) → shO z (pre ++ [e]) r = none → (pre ++ e :: r).Pairwise fun e f => e.2 / z = f.2 / z → e.1 = f.1 := fun k h => by
      have := shO_pw z r (pre ++ [e]) (by
        rw [List.pairwise_append]
        refine ⟨hp, by simp, fun x hx y hy => ?_⟩
        rw [List.mem_singleton.mp hy]
        exact k x hx) h
      rw [List.append_assoc] at this
      exact this
    cases hf : pre.findIdx? (fun x => decide (x.2 / z = e.2 / z)) with
    | some i =>
      rw [hf] at h
      obtain ⟨hi, hd, hlt⟩ := List.findIdx?_eq_some_iff_getElem.mp hf
      have hg : pre.getD i e = pre[i] := by
        rw [List.getD_eq_getElem?_getD, List.getElem?_eq_getElem hi]
        rfl
      simp only [hg] at h
      by_cases hn : pre[i].1 = e.1
      · rw [if_pos hn] at h
        refine key (fun x hx hxz => ?_) h
        obtain ⟨j, hj, rfl⟩ := List.mem_iff_getElem.mp hx
        have hb := of_decide_eq_true hd
        rcases Nat.lt_trichotomy i j with g | g | g
        · rw [← List.pairwise_iff_getElem.mp hp i j hi hj g (hb.trans hxz.symm)]
          exact hn
        · subst g
          exact hn
        · have := hlt j g
          simp [hxz] at this
      · rw [if_neg hn] at h
        cases h
    | none =>
      rw [hf] at h
      have hn := List.findIdx?_eq_none_iff.mp hf
      exact key (fun x hx hxz => absurd hxz (by simpa using hn x hx)) h
theorem lastI_none (n : Str) : ∀ (pre : List En) (k : Nat), lastI n pre k = none → ∀ x ∈ pre, x.1 ≠ n
  | [], _, _ => fun x hx => by simp at hx
  | y :: r, k, h => by
    rw [lastI_cons] at h
    cases g : lastI n r (k + 1) with
    | some j =>
      rw [g] at h
      cases h
    | none =>
      rw [g] at h
      simp only at h
      split at h
      · cases h
      · rename_i hy
        intro x hx
        rcases List.mem_cons.mp hx with rfl | hx
        · exact hy
        · exact lastI_none n r (k + 1) g x hx
theorem lastI_after (n : Str) : ∀ (pre : List En) (k i : Nat), lastI n pre k = some i → ∀ (j : Nat) (x : En), pre[j]? = some x → x.1 = n → k + j ≤ i
  | [], _, _, h => nomatch h
  | y :: r, k, i, h => by
    rw [lastI_cons] at h
    intro j x hj hx
    cases g : lastI n r (k + 1) with
    | some j' =>
      rw [g] at h
      simp only [Option.some.injEq] at h
      subst h
      cases j with
      | zero =>
        have := (lastI_lt n r (k + 1) j' g).1
        omega
      | succ j =>
        have := lastI_after n r (k + 1) j' g j x (by simpa using hj) hx
        omega
    | none =>
      rw [g] at h
      simp only at h
      split at h
      · cases h
        cases j with
        | zero => omega
        | succ j =>
          exact absurd hx (lastI_none n r (k + 1) g x (List.mem_of_getElem? (by simpa using hj)))
      · cases h
theorem baO_pw : ∀ (r pre : List En), pre.Pairwise (fun e f => e.1 = f.1 → e.2 ≤ f.2) → baO pre r = none → (pre ++ r).Pairwise fun e f => e.1 = f.1 → e.2 ≤ f.2
  | [], pre, hp, _ => by rw [List.append_nil]; exact hp
  | e :: r, pre, hp, h => by
    rw [baO_cons] at h
    have key : (∀ x ∈ pre, x.1 = e.1 → x.2 ≤ e.2) → baO (pre ++ [e]) r = none → (pre ++ e :: r).Pairwise fun e f => e.1 = f.1 → e.2 ≤ f.2 := fun k h => by
      have := baO_pw r (pre ++ [e]) (by
        rw [List.pairwise_append]
        refine ⟨hp, by simp, fun x hx y hy => ?_⟩
        rw [List.mem_singleton.mp hy]
        exact k x hx) h
      rw [List.append_assoc] at this
      exact this
    cases hf : lastI e.1 pre 0 with
    | some i =>
      rw [hf] at h
      obtain ⟨y, h1, h2, _⟩ := lastI_name e.1 pre 0 i hf
      rw [Nat.sub_zero] at h1
      have hg : pre.getD i e = y := by
        rw [List.getD_eq_getElem?_getD, h1]
        rfl
      simp only [hg] at h
      by_cases hn : e.2 < y.2
      · rw [if_pos hn] at h
        cases h
      · rw [if_neg hn] at h
        refine key (fun x hx hxn => ?_) h
        obtain ⟨j, hj⟩ := List.mem_iff_getElem?.mp hx
        have hle := lastI_after e.1 pre 0 i hf j x hj hxn
        rcases Nat.lt_or_eq_of_le (show j ≤ i by omega) with g | g
        · have := pw_idx.mp hp j i x y g hj h1 (hxn.trans h2.symm)
          omega
        · subst g
          rw [hj] at h1
          cases h1
          omega
    | none =>
      rw [hf] at h
      exact key (fun x hx hxn => absurd hxn (lastI_none e.1 pre 0 hf x hx)) h
theorem fine_of {z : Int} {es : List En} (h : barD z es = .none) : Fine z es := by
  unfold barD at h
  cases h1 : twO [] es with
  | some p =>
    rw [h1] at h
    cases h
  | none =>
    rw [h1] at h
    simp only at h
    cases h2 : shO z [] es with
    | some p =>
      rw [h2] at h
      cases h
    | none =>
      rw [h2] at h
      simp only at h
      cases h3 : baO [] es with
      | some p =>
        rw [h3] at h
        cases h
      | none => exact ⟨twO_pw es [] List.Pairwise.nil h1, shO_pw z es [] List.Pairwise.nil h2, baO_pw es [] List.Pairwise.nil h3⟩
theorem bar_iff {z : Int} {es : List En} : barD z es = .none ↔ Fine z es := ⟨fine_of, Fine.bar⟩
/-! ### the law's own dicts -/
def lastN (n : Str) (es : List En) : Option Int := (es.filter fun e => decide (e.1 = n)).getLast?.map (·.2)
def lastW (z : Int) (q : Int) (es : List En) : Option Str := (es.filter fun e => decide (e.2 / z = q)).getLast?.map (·.1)
theorem lastN_app (n : Str) (es : List En) (e : En) : lastN n (es ++ [e]) = if e.1 = n then some e.2 else lastN n es := by
  unfold lastN
  rw [List.filter_append]
  by_cases h : e.1 = n
  · rw [if_pos h, List.filter_cons, if_pos (decide_eq_true h)]
    simp
  · rw [if_neg h, List.filter_cons, if_neg (by simp [h])]
    simp
theorem lastW_app (z q : Int) (es : List En) (e : En) : lastW z q (es ++ [e]) = if e.2 / z = q then some e.1 else lastW z q es := by
  unfold lastW
  rw [List.filter_append]
  by_cases h : e.2 / z = q
  · rw [if_pos h, List.filter_cons, if_pos (decide_eq_true h)]
    simp
  · rw [if_neg h, List.filter_cons, if_neg (by simp [h])]
    simp
theorem last_max {R : En → En → Prop} {xs : List En} {y : En} (h : xs.Pairwise R) (hl : xs.getLast? = some y) : y ∈ xs ∧ ∀ x ∈ xs, x = y ∨ R x y := by
  obtain ⟨init, rfl⟩ := List.getLast?_eq_some_iff.mp hl
  refine ⟨by simp, fun x hx => ?_⟩
  rcases List.mem_append.mp hx with g | g
  · exact .inr ((List.pairwise_append.mp h).2.2 x g y (by simp))
  · exact .inl (List.mem_singleton.mp g)
theorem last_none {p : En → Bool} {xs : List En} (hl : (xs.filter p).getLast? = none) : ∀ x ∈ xs, p x = false := fun x hx => by
  have := List.filter_eq_nil_iff.mp (List.getLast?_eq_none_iff.mp hl) x hx
  simpa using this
def Bad (z : Int) (pre : List En) (e : En) : Prop := (∃ x ∈ pre, x.2 = e.2) ∨ e.2 < (lastN e.1 pre).getD (-1) ∨ (lastW z (e.2 / z) pre).getD e.1 ≠ e.1
theorem fine_snoc {z : Int} {pre : List En} {e : En} : Fine z (pre ++ [e]) ↔ Fine z pre ∧ ∀ x ∈ pre, x.2 ≠ e.2 ∧ (x.2 / z = e.2 / z → x.1 = e.1) ∧ (x.1 = e.1 → x.2 ≤ e.2) := by
  constructor
  · rintro ⟨a, b, c⟩
    rw [List.pairwise_append] at a b c
    exact ⟨⟨a.1, b.1, c.1⟩, fun x hx => ⟨a.2.2 x hx e (by simp), b.2.2 x hx e (by simp), c.2.2 x hx e (by simp)⟩⟩
  · rintro ⟨⟨a, b, c⟩, h⟩
    refine ⟨?_, ?_, ?_⟩ <;> rw [List.pairwise_append]
    · exact ⟨a, by simp, fun x hx y hy => by rw [List.mem_singleton.mp hy]; exact (h x hx).1⟩
    · exact ⟨b, by simp, fun x hx y hy => by rw [List.mem_singleton.mp hy]; exact (h x hx).2.1⟩
    · exact ⟨c, by simp, fun x hx y hy => by rw [List.mem_singleton.mp hy]; exact (h x hx).2.2⟩
theorem bad_iff {z : Int} {pre : List En} {e : En} (F : Fine z pre) (h0 : 0 ≤ e.2) : Bad z pre e ↔ ¬ Fine z (pre ++ [e]) := by
  rw [fine_snoc]
  have hN : (e.2 < (lastN e.1 pre).getD (-1)) ↔ ∃ x ∈ pre, x.1 = e.1 ∧ e.2 < x.2 := by
    cases hl : (pre.filter fun x => decide (x.1 = e.1)).getLast? with
    | none =>
      unfold lastN
      rw [hl]
      show e.2 < -1 ↔ _
      refine ⟨fun h => by omega, fun ⟨x, hx, h1, _⟩ => ?_⟩
      have := last_none hl x hx
      simp [h1] at this
    | some y =>
      unfold lastN
      rw [hl]
      show e.2 < y.2 ↔ _
      obtain ⟨m1, m2⟩ := last_max (F.bac.sublist List.filter_sublist) hl
      obtain ⟨k1, k2⟩ := List.mem_filter.mp m1
      refine ⟨fun h => ⟨y, k1, of_decide_eq_true k2, h⟩, fun ⟨x, hx, h1, h2⟩ => ?_⟩
      rcases m2 x (List.mem_filter.mpr ⟨hx, decide_eq_true h1⟩) with g | g
      · rw [← g]
        exact h2
      · have := g (h1.trans (of_decide_eq_true k2).symm)
        omega
  have hW : ((lastW z (e.2 / z) pre).getD e.1 ≠ e.1) ↔ ∃ x ∈ pre, x.2 / z = e.2 / z ∧ x.1 ≠ e.1 := by
    cases hl : (pre.filter fun x => decide (x.2 / z = e.2 / z)).getLast? with
    | none =>
      unfold lastW
      rw [hl]
      show e.1 ≠ e.1 ↔ _
      refine ⟨fun h => absurd rfl h, fun ⟨x, hx, h1, _⟩ => ?_⟩
      have := last_none hl x hx
      simp [h1] at this
    | some y =>
      unfold lastW
      rw [hl]
      show y.1 ≠ e.1 ↔ _
      obtain ⟨m1, m2⟩ := last_max (F.sha.sublist List.filter_sublist) hl
      obtain ⟨k1, k2⟩ := List.mem_filter.mp m1
      refine ⟨fun h => ⟨y, k1, of_decide_eq_true k2, h⟩, fun ⟨x, hx, h1, h2⟩ => ?_⟩
      rcases m2 x (List.mem_filter.mpr ⟨hx, decide_eq_true h1⟩) with g | g
      · rw [← g]
        exact h2
      · rw [← g (h1.trans (of_decide_eq_true k2).symm)]
        exact h2
  unfold Bad
  rw [hN, hW]
  constructor
  · rintro (⟨x, hx, h⟩ | ⟨x, hx, h1, h2⟩ | ⟨x, hx, h1, h2⟩) ⟨_, k⟩
    · exact (k x hx).1 h
    · have := (k x hx).2.2 h1
      omega
    · exact h2 ((k x hx).2.1 h1)
  · intro h
    refine Classical.byContradiction fun hn => h ⟨F, fun x hx => ⟨fun g => hn (.inl ⟨x, hx, g⟩), fun g => Classical.byContradiction fun g2 => hn (.inr (.inr ⟨x, hx, g, g2⟩)), fun g => ?_⟩⟩
    by_cases g2 : x.2 ≤ e.2
    · exact g2
    · exact absurd (.inr (.inl ⟨x, hx, g, by omega⟩)) hn
theorem fine_front {z : Int} {pre r : List En} (h : Fine z (pre ++ r)) : Fine z pre := ⟨(List.pairwise_append.mp h.two).1, (List.pairwise_append.mp h.sha).1, (List.pairwise_append.mp h.bac).1⟩
theorem fine_nil (z : Int) : Fine z [] := ⟨List.Pairwise.nil, List.Pairwise.nil, List.Pairwise.nil⟩
theorem inV_ints (i : Int) (xs : List Int) : inV (.int i) (xs.map V.int) = decide (∃ x ∈ xs, x = i) := by
  unfold inV
  rw [List.any_map, Bool.eq_iff_iff, List.any_eq_true, decide_eq_true_eq]
  constructor
  · rintro ⟨x, hx, h⟩
    refine ⟨x, hx, ?_⟩
    simpa [eqV] using h
  · rintro ⟨x, hx, h⟩
    exact ⟨x, hx, by simp [eqV, h]⟩
theorem flat_ints (xs : List Int) : (xs.map V.int).all flatV = true := by
  rw [List.all_map, List.all_eq_true]
  intro x _
  rfl
def sp_law_fault (_ : PySem.W.Frag) : Sp := fun vs H Q _ => ∃ (s : Addr) (z : Int) (es : List En), vs = [.ref s, .int z] ∧ SizeOk z ∧ EntsAt H s es ∧ es.length ≤ 1000 ∧ (∀ e ∈ es, 0 ≤ e.2) ∧ ∀ b H', Same H H' → (b = true ↔ ¬ Fine z es) → Q (.bl b) H'
/-! ### marks: each seen block and the one below it -/
def marksG : Int → List Int → List Int
  | _, [] => []
  | f, b :: r => (if f < b then [b - 1, b] else [b]) ++ marksG (b + 1) r
theorem marksG_cons (f b : Int) (r : List Int) : marksG f (b :: r) = (if f < b then [b - 1, b] else [b]) ++ marksG (b + 1) r := rfl
theorem marksG_ok : ∀ (xs : List Int) (f : Int), xs.Pairwise (· < ·) → (∀ b ∈ xs, f ≤ b) → (marksG f xs).Pairwise (· < ·) ∧ ∀ q, q ∈ marksG f xs ↔ f ≤ q ∧ ∃ b ∈ xs, q = b ∨ q = b - 1
  | [], _, _, _ => ⟨List.Pairwise.nil, fun q => by simp [marksG]⟩
  | b :: r, f, hp, hb => by
    obtain ⟨p1, p2⟩ := List.pairwise_cons.mp hp
    obtain ⟨i1, i2⟩ := marksG_ok r (b + 1) p2 fun x hx => p1 x hx
    have hfb := hb b List.mem_cons_self
    rw [marksG_cons]
    have hm : ∀ q, q ∈ (if f < b then [b - 1, b] else [b]) ↔ f ≤ q ∧ (q = b ∨ q = b - 1) := fun q => by
      split
      · simp only [List.mem_cons, List.not_mem_nil, or_false]
        omega
      · simp only [List.mem_cons, List.not_mem_nil, or_false]
        omega
    refine ⟨?_, fun q => ?_⟩
    · rw [List.pairwise_append]
      refine ⟨by split <;> simp [Int.sub_lt_self], i1, fun x hx y hy => ?_⟩
      have h1 := (hm x).mp hx
      have h2 := ((i2 y).mp hy).1
      omega
    · rw [List.mem_append, hm, i2]
      constructor
      · rintro (⟨h1, h2⟩ | ⟨h1, b', h2, h3⟩)
        · exact ⟨h1, b, List.mem_cons_self, h2⟩
        · exact ⟨by omega, b', List.mem_cons_of_mem _ h2, h3⟩
      · rintro ⟨h1, b', h2, h3⟩
        rcases List.mem_cons.mp h2 with rfl | h2
        · exact .inl ⟨h1, h3⟩
        · have := p1 b' h2
          by_cases h4 : b + 1 ≤ q
          · exact .inr ⟨h4, b', h2, h3⟩
          · exact .inl ⟨h1, by omega⟩
def marks (z : Int) (es : List En) : List Int := marksG 0 (seen z es)
theorem seen_pos {z : Int} {es : List En} (hz : 1 ≤ z) (h : ∀ e ∈ es, 0 ≤ e.2) : ∀ b ∈ seen z es, 0 ≤ b := fun b hb => by
  obtain ⟨e, he, rfl⟩ := (mem_seen z b es).mp hb
  exact Int.ediv_nonneg (h e he) (by omega)
theorem marks_eq {z : Int} {es : List En} (hz : 1 ≤ z) (h : ∀ e ∈ es, 0 ≤ e.2) {ms : List Int} (hl : ms.Pairwise (· < ·)) (hm : ∀ q, q ∈ ms ↔ ∃ e ∈ es, 0 ≤ q ∧ (q = e.2 / z - 1 ∨ q = e.2 / z)) : ms = marks z es := by
  obtain ⟨m1, m2⟩ := marksG_ok (seen z es) 0 (lt_seen z es) (seen_pos hz h)
  refine eq_of_lt hl m1 fun q => ?_
  rw [hm, show q ∈ marks z es ↔ _ from m2 q]
  constructor
  · rintro ⟨e, he, h0, h1⟩
    exact ⟨h0, e.2 / z, (mem_seen z _ es).mpr ⟨e, he, rfl⟩, by omega⟩
  · rintro ⟨h0, b, hb, h1⟩
    obtain ⟨e, he, rfl⟩ := (mem_seen z b es).mp hb
    exact ⟨e, he, h0, by omega⟩
/-! ### blocks of a gap are alike -/
theorem low_congr {q f : Int} : ∀ (xs : List (Int × Int)) (l : Int), (∀ p ∈ xs, (p.2 < q ↔ p.2 < f)) → NbW.low q xs l = NbW.low f xs l
  | [], _, _ => rfl
  | (i, b) :: r, l, h => by
    rw [low_cons, low_cons]
    have hb : (b < q ↔ b < f) := h (i, b) List.mem_cons_self
    have e : (if b < q then i + 1 else l) = (if b < f then i + 1 else l) := by
      by_cases g : b < q
      · rw [if_pos g, if_pos (hb.mp g)]
      · rw [if_neg g, if_neg (fun k => g (hb.mpr k))]
    rw [e]
    exact low_congr r _ fun p hp => h p (List.mem_cons_of_mem _ hp)
theorem high_congr {q f : Int} : ∀ (xs : List (Int × Int)) (l : Int), (∀ p ∈ xs, (p.2 < q ↔ p.2 < f)) → high q xs l = high f xs l
  | [], _, _ => rfl
  | (i, b) :: r, l, h => by
    rw [high_cons, high_cons]
    have hb : (b < q ↔ b < f) := h (i, b) List.mem_cons_self
    have e : (if b < q then l else min l i) = (if b < f then l else min l i) := by
      by_cases g : b < q
      · rw [if_pos g, if_pos (hb.mp g)]
      · rw [if_neg g, if_neg (fun k => g (hb.mpr k))]
    rw [e]
    exact high_congr r _ fun p hp => h p (List.mem_cons_of_mem _ hp)
theorem plc_blk {z : Int} {n : Str} : ∀ (es : List En) (k : Nat) (p : Int × Int), p ∈ plc z n k es → ∃ e ∈ es, e.2 / z = p.2
  | [], _, _, h => by simp [plc] at h
  | x :: es, k, p, h => by
    rw [plc_cons] at h
    split at h
    · rcases List.mem_cons.mp h with rfl | h
      · exact ⟨x, List.mem_cons_self, rfl⟩
      · obtain ⟨e, he, hz⟩ := plc_blk es (k + 1) p h
        exact ⟨e, List.mem_cons_of_mem _ he, hz⟩
    · obtain ⟨e, he, hz⟩ := plc_blk es (k + 1) p h
      exact ⟨e, List.mem_cons_of_mem _ he, hz⟩
theorem hold_nil {z q : Int} {es : List En} (h : ∀ e ∈ es, e.2 / z ≠ q) : hold z es q = [] := by
  unfold hold
  rw [List.map_eq_nil_iff, List.filter_eq_nil_iff]
  intro e he
  simpa using h e he
theorem wins_gap {z f b q : Int} {es : List En} {ns : List Str} (h : ∀ e ∈ es, e.2 / z < f ∨ b ≤ e.2 / z) (h1 : f ≤ q) (h2 : q < b) : wins z es ns q = wins z es ns f := by
  unfold wins
  congr 1
  funext n
  unfold winO
  rw [hold_nil (fun e he => by have := h e he; omega), hold_nil (fun e he => by have := h e he; omega)]
  have hp : ∀ p ∈ plc z n 0 es, (p.2 < q ↔ p.2 < f) := fun p hp => by
    obtain ⟨e, he, hz⟩ := plc_blk es 0 p hp
    have := h e he
    omega
  rw [low_congr _ _ hp, high_congr _ _ hp]
/-! ### the law's walk from below -/
def walkN (g : Int → Int → Int) (m : Int) : Option Int → List Int → List (Option Int)
  | _, [] => []
  | none, _ :: r => none :: walkN g m none r
  | some s, q :: r => (if m < g q s then none else some (g q s)) :: walkN g m (if m < g q s then none else some (g q s)) r
theorem walkN_none (g : Int → Int → Int) (m : Int) : ∀ r : List Int, ∀ x ∈ walkN g m none r, x = none
  | [], x, h => by simp [walkN] at h
  | _ :: r, x, h => by
    rcases List.mem_cons.mp (show x ∈ none :: walkN g m none r from h) with h | h
    · exact h
    · exact walkN_none g m r x h
/-- the walk over spans ends where the walk over marks does -/
theorem walks_end {z : Int} {es : List En} {ns : List Str} (g : Int → Int → Int) (hg : ∀ q s, g q s = slotF s (wins z es ns q) ((es.length : Int) + 1)) : ∀ (xs : List Int) (f s : Int), xs.Pairwise (· < ·) → (∀ b ∈ xs, f ≤ b) → (∀ e ∈ es, e.2 / z < f ∨ e.2 / z ∈ xs) →
    ((∃ x ∈ walkE g (es.length : Int) s (startsG f xs), (es.length : Int) < x) ↔ none ∈ walkN g (es.length : Int) (some s) (marksG f xs))
  | [], f, s, _, _, _ => by simp [startsG, marksG, walkE, walkN]
  | b :: r, f, s, hp, hb, he => by
    obtain ⟨p1, p2⟩ := List.pairwise_cons.mp hp
    have hfb := hb b List.mem_cons_self
    have ih := fun s => walks_end g hg r (b + 1) s p2 (fun x hx => p1 x hx) fun e hm => by
      rcases he e hm with h | h
      · exact .inl (by omega)
      · rcases List.mem_cons.mp h with h | h
        · exact .inl (by omega)
        · exact .inr h
    have step : ∀ s, ((∃ x ∈ walkE g (es.length : Int) s (b :: startsG (b + 1) r), (es.length : Int) < x) ↔ none ∈ walkN g (es.length : Int) (some s) (b :: marksG (b + 1) r)) := fun s => by
      rw [walkE_cons]
      show _ ↔ none ∈ (if (es.length : Int) < g b s then none else some (g b s)) :: walkN g (es.length : Int) (if (es.length : Int) < g b s then none else some (g b s)) (marksG (b + 1) r)
      by_cases h : (es.length : Int) < g b s
      · rw [if_pos h, if_pos h]
        exact ⟨fun _ => List.mem_cons_self, fun _ => ⟨_, List.mem_singleton.mpr rfl, h⟩⟩
      · rw [if_neg h, if_neg h, List.mem_cons]
        rw [← ih (g b s)]
        constructor
        · rintro ⟨x, hx, h2⟩
          rcases List.mem_cons.mp hx with rfl | hx
          · exact absurd h2 h
          · exact .inr ⟨x, hx, h2⟩
        · rintro (h2 | ⟨x, hx, h2⟩)
          · cases h2
          · exact ⟨x, List.mem_cons_of_mem _ hx, h2⟩
    rw [startsG_cons, marksG_cons]
    by_cases h : f < b
    · rw [if_pos h, if_pos h]
      show ((∃ x ∈ walkE g (es.length : Int) s (f :: b :: startsG (b + 1) r), (es.length : Int) < x) ↔ none ∈ walkN g (es.length : Int) (some s) ((b - 1) :: b :: marksG (b + 1) r))
      have hge : g (b - 1) s = g f s := by
        rw [hg, hg, wins_gap (f := f) (b := b) (fun e hm => ?_) (by omega) (by omega)]
        rcases he e hm with k | k
        · exact .inl k
        · rcases List.mem_cons.mp k with k | k
          · exact .inr (by omega)
          · have := p1 _ k
            exact .inr (by omega)
      rw [walkE_cons]
      show _ ↔ none ∈ (if (es.length : Int) < g (b - 1) s then none else some (g (b - 1) s)) :: walkN g (es.length : Int) (if (es.length : Int) < g (b - 1) s then none else some (g (b - 1) s)) (b :: marksG (b + 1) r)
      rw [hge]
      by_cases h3 : (es.length : Int) < g f s
      · rw [if_pos h3, if_pos h3]
        exact ⟨fun _ => List.mem_cons_self, fun _ => ⟨_, List.mem_singleton.mpr rfl, h3⟩⟩
      · rw [if_neg h3, if_neg h3, List.mem_cons]
        rw [← step (g f s)]
        constructor
        · rintro ⟨x, hx, h2⟩
          rcases List.mem_cons.mp hx with rfl | hx
          · exact absurd h2 h3
          · exact .inr ⟨x, hx, h2⟩
        · rintro (h2 | ⟨x, hx, h2⟩)
          · cases h2
          · exact ⟨x, List.mem_cons_of_mem _ hx, h2⟩
    · rw [if_neg h, if_neg h]
      exact step s
end NbG

set_option Elab.async false
set_option linter.all false
set_option maxRecDepth 100000
set_option maxHeartbeats 4000000
/-! The law's marks and its walk over them. -/
namespace NbH
open PySem PySem.Spec PyProof.Rows L2 Nb NbE NbR NbS NbF NbP NbK NbL NbX NbW NbZ NbM NbQ NbC NbG
def sp_law_marks (K : PySem.W.Frag) : Sp := fun vs H Q _ => ∃ (s : Addr) (z : Int) (es : List En), vs = [.ref s, .int z] ∧ SizeOk z ∧ EntsAt H s es ∧ es.length ≤ 200 ∧ (∀ e ∈ es, 0 ≤ e.2) ∧ NewInts H Q (marks z es)
/-- a mark and its slot, where it has one -/
def mkD (p : Int × Option Int) : PyData := .tuple [.int p.1, match p.2 with | some s => .int s | none => .none]
/-- the law's walk -/
def lwalk (z : Int) (ns : List Str) (es : List En) : List (Int × Option Int) := (marks z es).zip (walkN (sFrom z ns es) (es.length : Int) (some 0) (marks z es))
def sp_law_walk (K : PySem.W.Frag) : Sp := fun vs H Q _ => ∃ (s : Addr) (z : Int) (c : Addr) (ns : List Str) (es : List En), vs = [.ref s, .int z, .ref c] ∧ WF z ns es ∧ EntsAt H s es ∧ CrewAt H c ns ∧ ∀ a vs' H', H a = none → Same H H' → H' a = some (.lst vs') → DpAll K H' vs' ((lwalk z ns es).map mkD) → Q (.ref a) H'
theorem dp_mk {K : PySem.W.Frag} {H : Hp} {L : Addr} {ys : List V} {o : HO} {v : V} {w : Int × Option Int} (hL : H L = some (.lst ys)) (h : Dp K H v (mkD w)) : Dp K (upd H L o) v (mkD w) := by
  obtain ⟨i, j⟩ := w
  cases j <;> cases h with
  | tup a b =>
    refine .tup (sqT_put a hL) ?_
    cases b with
    | cons b1 b2 =>
      cases b1
      cases b2 with
      | cons b1 b2 =>
        cases b1
        cases b2
        first
          | exact .cons (.int _) (.cons (.int _) .nil)
          | exact .cons (.int _) (.cons .non .nil)
theorem dps_mk {K : PySem.W.Frag} {H : Hp} {L : Addr} {ys : List V} {o : HO} (hL : H L = some (.lst ys)) : ∀ {ws : List (Int × Option Int)} {vs : List V}, DpAll K H vs (ws.map mkD) → DpAll K (upd H L o) vs (ws.map mkD)
  | [], _, h => by cases h; exact .nil
  | a :: as, _, h => by
    cases h with
    | cons x y => exact .cons (dp_mk hL x) (dps_mk hL y)
theorem lay_ints : ∀ xs : List Int, PyData.canLayAll0 (xs.map PyData.int) = true
  | [] => rfl
  | x :: xs => by
    show (true && PyData.canLayAll0 (xs.map PyData.int)) = true
    rw [lay_ints xs]
    rfl
theorem dep_ints : ∀ xs : List Int, PyData.depthAll (xs.map PyData.int) = 0
  | [] => rfl
  | x :: xs => by
    show max 0 (PyData.depthAll (xs.map PyData.int)) = 0
    rw [dep_ints xs]
    rfl
theorem shaped_ints (xs : List Int) : SeqAt.shaped (.list (xs.map PyData.int)) = true := by
  unfold SeqAt.shaped
  rw [Bool.and_eq_true]
  refine ⟨lay_ints xs, decide_eq_true ?_⟩
  show PyData.depthAll (xs.map PyData.int) + 1 ≤ 64
  rw [dep_ints]
  decide
theorem dp_ints {K : PySem.W.Frag} {H : Hp} : ∀ xs : List Int, DpAll K H (xs.map V.int) (xs.map PyData.int)
  | [] => .nil
  | x :: xs => .cons (.int _) (dp_ints xs)
theorem eqv_nil (xs : List Int) : PyData.eqv (.list (xs.map PyData.int)) (.list []) = decide (xs = []) := by
  cases xs
  · decide +kernel
  · simp
    rfl
theorem ne_ints {K : PySem.W.Frag} {H : Hp} {l p : Addr} {xs : List Int} {Q : VK} (hl : H l = some (.lst (xs.map V.int))) (hp : H p = some (.lst [])) (q : Q (.bl (!decide (xs = []))) H) : rNeD K (.ref l) (.ref p) H Q :=
  ⟨_, _, .lst (SqL.of hl) (dp_ints xs), .lst (SqL.of hp) .nil, shaped_ints xs, by decide +kernel, by rw [eqv_nil]; exact q⟩
theorem eq_ints {K : PySem.W.Frag} {H : Hp} {l p : Addr} {xs : List Int} {Q : VK} (hl : H l = some (.lst (xs.map V.int))) (hp : H p = some (.lst [])) (q : Q (.bl (decide (xs = []))) H) : rEqD K (.ref l) (.ref p) H Q :=
  ⟨_, _, .lst (SqL.of hl) (dp_ints xs), .lst (SqL.of hp) .nil, shaped_ints xs, by decide +kernel, by rw [eqv_nil]; exact q⟩
/-! ### the least slot -/
def cand (s : Int) (ws : List (Int × Int)) : List Int := (ws.filter fun p => decide (max p.1 s ≤ p.2)).map fun p => max p.1 s
theorem slotF_cand (s : Int) : ∀ (ws : List (Int × Int)) (f : Int), slotF s ws f ≤ f ∧ (∀ c ∈ cand s ws, slotF s ws f ≤ c) ∧ (slotF s ws f = f ∨ slotF s ws f ∈ cand s ws)
  | [], f => ⟨Int.le_refl _, fun c hc => by simp [cand] at hc, .inl rfl⟩
  | p :: r, f => by
    rw [slotF_cons]
    by_cases h : max p.1 s ≤ p.2
    · have hc : cand s (p :: r) = max p.1 s :: cand s r := by
        unfold cand
        rw [List.filter_cons_of_pos (by simpa using h), List.map_cons]
      rw [if_pos h, hc]
      obtain ⟨h1, h2, h3⟩ := slotF_cand s r (min f (max p.1 s))
      refine ⟨by omega, fun c hm => ?_, ?_⟩
      · rcases List.mem_cons.mp hm with rfl | hm
        · omega
        · exact h2 c hm
      · rcases h3 with h3 | h3
        · by_cases h4 : f ≤ max p.1 s
          · exact .inl (by omega)
          · exact .inr (List.mem_cons.mpr (.inl (by omega)))
        · exact .inr (List.mem_cons_of_mem _ h3)
    · have hc : cand s (p :: r) = cand s r := by
        unfold cand
        rw [List.filter_cons_of_neg (by simpa using h)]
      rw [if_neg h, hc]
      exact slotF_cand s r f
theorem cand_app (s : Int) (xs ys : List (Int × Int)) : cand s (xs ++ ys) = cand s xs ++ cand s ys := by
  unfold cand
  rw [List.filter_append, List.map_append]
theorem wins_le {z : Int} {es : List En} {ns : List Str} {q : Int} : ∀ p ∈ wins z es ns q, p.2 ≤ (es.length : Int) := fun p hp => by
  obtain ⟨n, _, h⟩ := List.mem_filterMap.mp hp
  unfold winO at h
  split at h
  · cases h
  · cases h
    exact ((high_ge q z n _ es 0 (es.length : Int)).mp (Int.le_refl _)).1
theorem cand_le {z : Int} {es : List En} {ns : List Str} {q s : Int} : ∀ c ∈ cand s (wins z es ns q), c ≤ (es.length : Int) := fun c hc => by
  obtain ⟨p, hp, rfl⟩ := List.mem_map.mp hc
  have h1 := of_decide_eq_true (List.mem_filter.mp hp).2
  have h2 := wins_le p (List.mem_filter.mp hp).1
  omega
/-- no slot is left: the walk ends -/
theorem cand_nil {z : Int} {es : List En} {ns : List Str} {q s : Int} (h : cand s (wins z es ns q) = []) : (es.length : Int) < sFrom z ns es q s := by
  obtain ⟨h1, h2, h3⟩ := slotF_cand s (wins z es ns q) ((es.length : Int) + 1)
  unfold sFrom
  rcases h3 with h3 | h3
  · omega
  · rw [h] at h3
    cases h3
/-- the least one is the next slot -/
theorem cand_min {z : Int} {es : List En} {ns : List Str} {q s m : Int} (h : m ∈ cand s (wins z es ns q)) (hm : ∀ c ∈ cand s (wins z es ns q), m ≤ c) : sFrom z ns es q s = m ∧ m ≤ (es.length : Int) := by
  obtain ⟨h1, h2, h3⟩ := slotF_cand s (wins z es ns q) ((es.length : Int) + 1)
  have h4 := cand_le m h
  unfold sFrom
  refine ⟨?_, h4⟩
  have h5 := h2 m h
  rcases h3 with h3 | h3
  · omega
  · have := hm _ h3
    omega
theorem wf_pos {z : Int} {ns : List Str} {es : List En} (hw : WF z ns es) : ∀ e ∈ es, 0 ≤ e.2 := fun e he => by
  have := hw.en.ok e he
  unfold enOk at this
  simp only [Bool.and_eq_true, decide_eq_true_eq] at this
  exact this.2
theorem len_marksG : ∀ (xs : List Int) (f : Int), (marksG f xs).length ≤ 2 * xs.length
  | [], _ => Nat.le_refl _
  | b :: r, f => by
    rw [marksG_cons, List.length_append, List.length_cons]
    have := len_marksG r (b + 1)
    split <;> simp only [List.length_cons, List.length_nil] <;> omega
def oV : Option Int → V
  | some s => .int s
  | none => .non
/-! ### where the walk ends, the steps push -/
theorem lastS_nil : lastS [] = 0 := rfl
theorem lastS_cons (p : Int × Int) (r : List (Int × Int)) : lastS (p :: r) = if r = [] then p.2 else lastS r := by
  cases r with
  | nil => rfl
  | cons x xs =>
    rw [if_neg (by simp)]
    unfold lastS
    rw [List.getLast?_cons_cons]
theorem len_walkN (g : Int → Int → Int) (m : Int) : ∀ (qs : List Int) (o : Option Int), (walkN g m o qs).length = qs.length
  | [], o => by cases o <;> rfl
  | q :: r, none => by
    show (none :: walkN g m none r).length = _
    rw [List.length_cons, List.length_cons, len_walkN g m r]
  | q :: r, some s => by
    show ((if m < g q s then none else some (g q s)) :: walkN g m (if m < g q s then none else some (g q s)) r).length = _
    rw [List.length_cons, List.length_cons, len_walkN g m r]
theorem push_end (g : Int → Int → Int) {m : Int} (hm : 0 ≤ m) : ∀ (qs : List Int) (s : Int), s ≤ m → ((∃ x ∈ walkE g m s qs, m < x) ↔ m < lastS (pushG s (qs.zip (walkE g m s qs))))
  | [], s, _ => by
    simp only [walkE, List.not_mem_nil, false_and, exists_false, List.zip_nil_left, pushG, lastS_nil, false_iff]
    omega
  | q :: r, s, hs => by
    rw [walkE_cons]
    by_cases h : m < g q s
    · rw [if_pos h, List.zip_cons_cons, List.zip_nil_right, pushG_cons, if_pos (by show s < g q s; omega)]
      refine ⟨fun _ => ?_, fun _ => ⟨_, List.mem_singleton.mpr rfl, h⟩⟩
      exact h
    · rw [if_neg h, List.zip_cons_cons, pushG_cons]
      have ih := push_end g hm r (g q s) (by omega)
      have e1 : (∃ x ∈ g q s :: walkE g m (g q s) r, m < x) ↔ ∃ x ∈ walkE g m (g q s) r, m < x := by
        constructor
        · rintro ⟨x, hx, h2⟩
          rcases List.mem_cons.mp hx with rfl | hx
          · exact absurd h2 h
          · exact ⟨x, hx, h2⟩
        · rintro ⟨x, hx, h2⟩
          exact ⟨x, List.mem_cons_of_mem _ hx, h2⟩
      rw [e1, ih]
      show m < lastS (pushG (g q s) (r.zip (walkE g m (g q s) r))) ↔ m < lastS ((if s < g q s then [(q, g q s)] else []) ++ pushG (g q s) (r.zip (walkE g m (g q s) r)))
      by_cases h2 : s < g q s
      · rw [if_pos h2, List.singleton_append, lastS_cons]
        by_cases h3 : pushG (g q s) (r.zip (walkE g m (g q s) r)) = []
        · rw [if_pos h3, h3, lastS_nil]
          show m < 0 ↔ m < g q s
          omega
        · rw [if_neg h3]
      · rw [if_neg h2, List.nil_append]
/-- the program's steps end where the law's walk does -/
theorem pushed_iff {z : Int} {ns : List Str} {es : List En} (hz : 1 ≤ z) (pos : ∀ e ∈ es, 0 ≤ e.2) : (es.length : Int) < lastS (push z ns es) ↔ ∃ x ∈ lwalk z ns es, x.2 = none := by
  have h1 := push_end (sFrom z ns es) (m := (es.length : Int)) (by omega) (starts z es) 0 (by omega)
  have h2 := walks_end (z := z) (es := es) (ns := ns) (sFrom z ns es) (fun q s => rfl) (seen z es) 0 0 (lt_seen z es) (seen_pos hz pos) fun e he => .inr ((mem_seen z _ es).mpr ⟨e, he, rfl⟩)
  have h3 : none ∈ walkN (sFrom z ns es) (es.length : Int) (some 0) (marks z es) ↔ ∃ x ∈ lwalk z ns es, x.2 = none := by
    have hl := len_walkN (sFrom z ns es) (es.length : Int) (marks z es) (some 0)
    constructor
    · intro h
      obtain ⟨i, hi, hx⟩ := List.mem_iff_getElem.mp h
      refine ⟨((marks z es)[i]'(by omega), none), ?_, rfl⟩
      refine List.mem_iff_getElem?.mpr ⟨i, ?_⟩
      unfold lwalk
      rw [List.getElem?_zip_eq_some]
      exact ⟨List.getElem?_eq_getElem _, by rw [List.getElem?_eq_getElem hi, hx]⟩
    · rintro ⟨⟨q, o⟩, hx, rfl⟩
      exact (List.of_mem_zip hx).2
  exact h1.symm.trans (h2.trans h3)
/-- no obstacle, exactly where nothing bars and the walk goes through -/
theorem obs_iff {z : Int} {ns : List Str} {es : List En} (hz : 1 ≤ z) (pos : ∀ e ∈ es, 0 ≤ e.2) : obsD z ns es = .none ↔ Fine z es ∧ ¬ ∃ x ∈ lwalk z ns es, x.2 = none := by
  rw [← pushed_iff hz pos]
  by_cases h : barD z es = .none
  · rw [obs_none h]
    have F := bar_iff.mp h
    unfold pushedD
    by_cases h2 : (es.length : Int) < lastS (push z ns es)
    · rw [if_pos h2]
      exact ⟨fun k => (by cases k), fun k => absurd h2 k.2⟩
    · rw [if_neg h2]
      exact ⟨fun _ => ⟨F, h2⟩, fun _ => rfl⟩
  · rw [obs_some h]
    exact ⟨fun k => absurd k h, fun k => absurd (bar_iff.mpr k.1) h⟩
/-! ### steps -/
/-- steps that are right: blocks and slots ascend, and no slot from the former one on is left before the next -/
def SOk (z : Int) (ns : List Str) (es : List En) : Int → Int → List (Int × Int) → Prop
  | _, s, [] => s = (es.length : Int) + 1
  | low, s, p :: r => low < p.1 ∧ (∃ e ∈ es, p.1 ≤ e.2 / z) ∧ s < p.2 ∧ p.2 ≤ (es.length : Int) + 1 ∧ sFrom z ns es p.1 s = p.2 ∧ SOk z ns es p.1 p.2 r
theorem slotF_ge (s : Int) : ∀ (ws : List (Int × Int)) (f : Int), s ≤ f → s ≤ slotF s ws f
  | [], f, h => h
  | p :: r, f, h => by
    rw [slotF_cons]
    refine slotF_ge s r _ ?_
    split <;> omega
theorem sFrom_ge {z : Int} {ns : List Str} {es : List En} {q s : Int} (h : s ≤ (es.length : Int) + 1) : s ≤ sFrom z ns es q s := slotF_ge s _ _ h
theorem sFrom_le {z : Int} {ns : List Str} {es : List En} {q s : Int} : sFrom z ns es q s ≤ (es.length : Int) + 1 := (slotF_cand s _ _).1
theorem startsG_ok : ∀ (xs : List Int) (f : Int), xs.Pairwise (· < ·) → (∀ b ∈ xs, f ≤ b) → (startsG f xs).Pairwise (· < ·) ∧ ∀ q ∈ startsG f xs, f ≤ q ∧ ∃ b ∈ xs, q ≤ b
  | [], f, _, _ => ⟨List.Pairwise.nil, fun q hq => by simp [startsG] at hq⟩
  | b :: r, f, hp, hb => by
    obtain ⟨p1, p2⟩ := List.pairwise_cons.mp hp
    have hfb := hb b List.mem_cons_self
    obtain ⟨i1, i2⟩ := startsG_ok r (b + 1) p2 fun x hx => p1 x hx
    rw [startsG_cons]
    have hm : ∀ q, q ∈ (if f < b then [f, b] else [b]) → f ≤ q ∧ q ≤ b := fun q hq => by
      split at hq <;> simp only [List.mem_cons, List.not_mem_nil, or_false] at hq <;> omega
    refine ⟨List.pairwise_append.mpr ⟨by split <;> simp_all, i1, fun x hx y hy => ?_⟩, fun q hq => ?_⟩
    · have h1 := (hm x hx).2
      have h2 := (i2 y hy).1
      omega
    · rcases List.mem_append.mp hq with hq | hq
      · exact ⟨(hm q hq).1, b, List.mem_cons_self, (hm q hq).2⟩
      · obtain ⟨h1, b', h2, h3⟩ := i2 q hq
        exact ⟨by omega, b', List.mem_cons_of_mem _ h2, h3⟩
theorem push_ok {z : Int} {ns : List Str} {es : List En} : ∀ (qs : List Int) (low s : Int), qs.Pairwise (· < ·) → (∀ q ∈ qs, low < q ∧ ∃ e ∈ es, q ≤ e.2 / z) → s ≤ (es.length : Int) → (es.length : Int) < lastS (pushG s (qs.zip (walkE (sFrom z ns es) (es.length : Int) s qs))) → SOk z ns es low s (pushG s (qs.zip (walkE (sFrom z ns es) (es.length : Int) s qs)))
  | [], low, s, _, _, _, h => by
    simp only [walkE, List.zip_nil_left, pushG, lastS_nil] at h
    omega
  | q :: r, low, s, hp, hq, hs, h => by
    obtain ⟨p1, p2⟩ := List.pairwise_cons.mp hp
    obtain ⟨q1, q2⟩ := hq q List.mem_cons_self
    have ge : s ≤ sFrom z ns es q s := sFrom_ge (by omega)
    have le : sFrom z ns es q s ≤ (es.length : Int) + 1 := sFrom_le
    rw [walkE_cons] at h ⊢
    by_cases h1 : (es.length : Int) < sFrom z ns es q s
    · rw [if_pos h1, List.zip_cons_cons, List.zip_nil_right, pushG_cons, if_pos (by show s < sFrom z ns es q s; omega)]
      exact ⟨q1, q2, by show s < sFrom z ns es q s; omega, le, rfl, by show sFrom z ns es q s = _; omega⟩
    · rw [if_neg h1, List.zip_cons_cons, pushG_cons] at h ⊢
      have ih := fun (low : Int) (hl : low ≤ q) => push_ok (z := z) (ns := ns) (es := es) r low (sFrom z ns es q s) p2 (fun x hx => ⟨by have := p1 x hx; omega, (hq x (List.mem_cons_of_mem _ hx)).2⟩) (by omega)
      by_cases h2 : s < sFrom z ns es q s
      · rw [if_pos h2, List.singleton_append, lastS_cons] at h
        rw [if_pos h2, List.singleton_append]
        by_cases h3 : pushG (sFrom z ns es q s) (r.zip (walkE (sFrom z ns es) (es.length : Int) (sFrom z ns es q s) r)) = []
        · rw [if_pos h3] at h
          exact absurd h h1
        · rw [if_neg h3] at h
          exact ⟨q1, q2, h2, le, rfl, ih q (Int.le_refl _) h⟩
      · rw [if_neg h2, List.nil_append] at h ⊢
        have e : sFrom z ns es q s = s := by omega
        have := ih low (by omega) h
        show SOk z ns es low s (pushG (sFrom z ns es q s) _)
        rw [e] at this ⊢
        exact this
theorem steps_ok {z : Int} {ns : List Str} {es : List En} (hz : 1 ≤ z) (pos : ∀ e ∈ es, 0 ≤ e.2) (h : (es.length : Int) < lastS (push z ns es)) : SOk z ns es (-1) 0 (push z ns es) := by
  obtain ⟨h1, h2⟩ := startsG_ok (seen z es) 0 (lt_seen z es) (seen_pos hz pos)
  refine push_ok (starts z es) (-1) 0 h1 (fun q hq => ?_) (by omega) h
  obtain ⟨k1, b, k2, k3⟩ := h2 q hq
  obtain ⟨e, he, rfl⟩ := (mem_seen z b es).mp k2
  exact ⟨by omega, e, he, k3⟩
/-! ### pairs that bar -/
/-- two entries that bar one another, in the way that the word names -/
def POk (z : Int) (es : List En) (w : Str) (i j : Nat) : Prop := i < j ∧ ∃ e f, es[i]? = some e ∧ es[j]? = some f ∧ (w = "twice" ∧ e.2 = f.2 ∨ w = "shared" ∧ e.1 ≠ f.1 ∧ e.2 / z = f.2 / z ∨ w = "back" ∧ e.1 = f.1 ∧ f.2 < e.2)
theorem mid_at (pre r : List En) (e : En) : (pre ++ e :: r)[pre.length]? = some e := by
  rw [List.getElem?_append_right (Nat.le_refl _), Nat.sub_self]
  rfl
theorem pre_at {pre : List En} {i : Nat} {x : En} (r : List En) (h : pre[i]? = some x) : (pre ++ r)[i]? = some x := by
  rw [List.getElem?_append_left (List.getElem?_eq_some_iff.mp h).1]
  exact h
theorem find_at {p : En → Bool} {pre : List En} {i : Nat} (h : pre.findIdx? p = some i) : ∃ x, pre[i]? = some x ∧ p x = true := by
  obtain ⟨a, b, _⟩ := List.findIdx?_eq_some_iff_getElem.mp h
  exact ⟨pre[i], List.getElem?_eq_getElem a, b⟩
theorem lastI_at (n : Str) : ∀ (pre : List En) (k i : Nat), lastI n pre k = some i → ∃ t x, i = k + t ∧ pre[t]? = some x ∧ x.1 = n
  | [], _, _, h => nomatch h
  | e :: r, k, i, h => by
    rw [lastI_cons] at h
    cases g : lastI n r (k + 1) with
    | some j =>
      rw [g] at h
      cases h
      obtain ⟨t, x, h1, h2, h3⟩ := lastI_at n r (k + 1) _ g
      exact ⟨t + 1, x, by omega, by simpa using h2, h3⟩
    | none =>
      rw [g] at h
      simp only at h
      split at h
      · cases h
        exact ⟨0, e, rfl, rfl, by assumption⟩
      · cases h
theorem twO_ok (z : Int) : ∀ (r pre : List En) (i j : Nat), twO pre r = some (i, j) → POk z (pre ++ r) "twice" i j
  | [], _, _, _, h => nomatch h
  | e :: r, pre, i, j, h => by
    rw [twO_cons] at h
    cases g : pre.findIdx? (fun x => decide (x.2 = e.2)) with
    | some k =>
      rw [g] at h
      cases h
      obtain ⟨x, h1, h2⟩ := find_at g
      exact ⟨(List.getElem?_eq_some_iff.mp h1).1, x, e, pre_at _ h1, mid_at _ _ _, .inl ⟨rfl, of_decide_eq_true h2⟩⟩
    | none =>
      rw [g] at h
      have := twO_ok z r (pre ++ [e]) i j h
      rw [List.append_assoc] at this
      exact this
theorem shO_ok (z : Int) : ∀ (r pre : List En) (i j : Nat), shO z pre r = some (i, j) → POk z (pre ++ r) "shared" i j
  | [], _, _, _, h => nomatch h
  | e :: r, pre, i, j, h => by
    rw [shO_cons] at h
    have next : shO z (pre ++ [e]) r = some (i, j) → POk z (pre ++ e :: r) "shared" i j := fun h => by
      have := shO_ok z r (pre ++ [e]) i j h
      rw [List.append_assoc] at this
      exact this
    cases g : pre.findIdx? (fun x => decide (x.2 / z = e.2 / z)) with
    | some k =>
      rw [g] at h
      simp only at h
      obtain ⟨x, h1, h2⟩ := find_at g
      have hd : pre.getD k e = x := by rw [List.getD_eq_getElem?_getD, h1]; rfl
      rw [hd] at h
      by_cases h3 : x.1 = e.1
      · rw [if_pos h3] at h
        exact next h
      · rw [if_neg h3] at h
        cases h
        exact ⟨(List.getElem?_eq_some_iff.mp h1).1, x, e, pre_at _ h1, mid_at _ _ _, .inr (.inl ⟨rfl, h3, of_decide_eq_true h2⟩)⟩
    | none =>
      rw [g] at h
      exact next h
theorem baO_ok (z : Int) : ∀ (r pre : List En) (i j : Nat), baO pre r = some (i, j) → POk z (pre ++ r) "back" i j
  | [], _, _, _, h => nomatch h
  | e :: r, pre, i, j, h => by
    rw [baO_cons] at h
    have next : baO (pre ++ [e]) r = some (i, j) → POk z (pre ++ e :: r) "back" i j := fun h => by
      have := baO_ok z r (pre ++ [e]) i j h
      rw [List.append_assoc] at this
      exact this
    cases g : lastI e.1 pre 0 with
    | some k =>
      rw [g] at h
      simp only at h
      obtain ⟨t, x, h0, h1, h2⟩ := lastI_at e.1 pre 0 k g
      obtain rfl : k = t := by omega
      have hd : pre.getD k e = x := by rw [List.getD_eq_getElem?_getD, h1]; rfl
      rw [hd] at h
      by_cases h3 : e.2 < x.2
      · rw [if_pos h3] at h
        cases h
        exact ⟨(List.getElem?_eq_some_iff.mp h1).1, x, e, pre_at _ h1, mid_at _ _ _, .inr (.inr ⟨rfl, h2, h3⟩)⟩
      · rw [if_neg h3] at h
        exact next h
    | none =>
      rw [g] at h
      exact next h
theorem bar_ok (z : Int) (es : List En) : barD z es = .none ∨ ∃ w i j, barD z es = duoD w (some (i, j)) ∧ POk z es w i j := by
  unfold barD
  cases h1 : twO [] es with
  | some p => exact .inr ⟨_, p.1, p.2, rfl, twO_ok z es [] _ _ h1⟩
  | none =>
    simp only
    cases h2 : shO z [] es with
    | some p => exact .inr ⟨_, p.1, p.2, rfl, shO_ok z es [] _ _ h2⟩
    | none =>
      simp only
      cases h3 : baO [] es with
      | some p => exact .inr ⟨_, p.1, p.2, rfl, baO_ok z es [] _ _ h3⟩
      | none => exact .inl rfl
/-- what an obstacle can be -/
theorem obs_ok {z : Int} {ns : List Str} {es : List En} (hz : 1 ≤ z) (pos : ∀ e ∈ es, 0 ≤ e.2) : obsD z ns es = .none ∨ (∃ w i j, obsD z ns es = duoD w (some (i, j)) ∧ POk z es w i j) ∨ (obsD z ns es = .tuple [.str "pushed", .list ((push z ns es).map p2D)] ∧ Fine z es ∧ SOk z ns es (-1) 0 (push z ns es) ∧ push z ns es ≠ []) := by
  rcases bar_ok z es with h | ⟨w, i, j, h1, h2⟩
  · rw [obs_none h]
    have F := bar_iff.mp h
    unfold pushedD
    by_cases h2 : (es.length : Int) < lastS (push z ns es)
    · rw [if_pos h2]
      refine .inr (.inr ⟨rfl, F, steps_ok hz pos h2, fun h3 => ?_⟩)
      rw [h3, lastS_nil] at h2
      omega
    · rw [if_neg h2]
      exact .inl rfl
  · have hb : ¬ barD z es = .none := by
      rw [h1]
      exact fun k => by cases k
    rw [obs_some hb]
    exact .inr (.inl ⟨w, i, j, h1, h2⟩)
/-! ### what shows an obstacle -/
inductive Thing where
  | two (w : Str) (i j : Nat)
  | pushed (st : List (Int × Int))
def ThingAt (H : Hp) (t : Addr) : Thing → Prop
  | .two w i j => H t = some (.tup [.str w, .int (i : Int), .int (j : Int)])
  | .pushed st => ∃ a ys, H t = some (.tup [.str "pushed", .ref a]) ∧ H a = some (.lst ys) ∧ StepsAt H ys st
def Right (z : Int) (ns : List Str) (es : List En) : Thing → Prop
  | .two w i j => POk z es w i j
  | .pushed st => Fine z es ∧ SOk z ns es (-1) 0 st ∧ st ≠ []
theorem SOk.len {z : Int} {ns : List Str} {es : List En} : ∀ {st : List (Int × Int)} {low s : Int}, SOk z ns es low s st → s + (st.length : Int) ≤ (es.length : Int) + 1
  | [], low, s, h => by
    show s + 0 ≤ _
    have : s = (es.length : Int) + 1 := h
    omega
  | p :: r, low, s, ⟨_, _, h1, _, _, h2⟩ => by
    have := SOk.len h2
    rw [List.length_cons]
    omega
theorem SOk.last {z : Int} {ns : List Str} {es : List En} : ∀ {st : List (Int × Int)} {low s : Int}, SOk z ns es low s st → (st ≠ [] → ∃ p, st.getLast? = some p ∧ p.2 = (es.length : Int) + 1 ∧ ∃ e ∈ es, p.1 ≤ e.2 / z)
  | [], low, s, h => fun k => (k rfl).elim
  | [p], low, s, ⟨_, h1, _, _, _, h2⟩ => fun _ => ⟨p, rfl, h2, h1⟩
  | p :: x :: r, low, s, ⟨_, _, _, _, _, h2⟩ => fun _ => by
    obtain ⟨q, k1, k2⟩ := SOk.last h2 (by simp)
    exact ⟨q, by rw [List.getLast?_cons_cons]; exact k1, k2⟩
theorem maxDf_ge (d : Int) : ∀ ys : List Int, ∀ y ∈ ys, y ≤ maxDf d ys := by
  have k : ∀ (ys : List Int) (a : Int), a ≤ ys.foldl max a ∧ ∀ y ∈ ys, y ≤ ys.foldl max a := by
    intro ys
    induction ys with
    | nil => intro a; exact ⟨Int.le_refl _, fun y hy => by cases hy⟩
    | cons x r ih =>
      intro a
      obtain ⟨h1, h2⟩ := ih (max a x)
      refine ⟨by show a ≤ r.foldl max (max a x); omega, fun y hy => ?_⟩
      rcases List.mem_cons.mp hy with rfl | hy
      · show y ≤ r.foldl max (max a y)
        omega
      · exact h2 y hy
  intro ys y hy
  cases ys with
  | nil => cases hy
  | cons x r =>
    obtain ⟨h1, h2⟩ := k r x
    rcases List.mem_cons.mp hy with rfl | hy
    · exact h1
    · exact h2 y hy
theorem topB_le {z : Int} {es : List En} {e : En} (he : e ∈ es) : e.2 / z ≤ topB z es := maxDf_ge _ _ _ (List.mem_map.mpr ⟨e, he, rfl⟩)
theorem SOk.first {z : Int} {ns : List Str} {es : List En} {low s : Int} {st : List (Int × Int)} {p : Int × Int} (h : SOk z ns es low s st) (hp : st[0]? = some p) : low < p.1 := by
  cases st with
  | nil => cases hp
  | cons x r =>
    cases hp
    exact h.1
theorem lay_steps : ∀ st : List (Int × Int), PyData.canLayAll0 (st.map p2D) = true
  | [] => rfl
  | x :: st => by
    show ((true && (true && true)) && PyData.canLayAll0 (st.map p2D)) = true
    rw [lay_steps st]
    rfl
theorem dep_steps : ∀ st : List (Int × Int), PyData.depthAll (st.map p2D) ≤ 1
  | [] => Nat.zero_le _
  | e :: es => by
    show max (max 0 (max 0 0) + 1) (PyData.depthAll (es.map p2D)) ≤ 1
    have := dep_steps es
    simp only [Nat.max_self, Nat.zero_add]
    omega
theorem shaped_steps (st : List (Int × Int)) : SeqAt.shaped (.list (st.map p2D)) = true := by
  unfold SeqAt.shaped
  rw [Bool.and_eq_true]
  refine ⟨lay_steps st, decide_eq_true ?_⟩
  show PyData.depthAll (st.map p2D) + 1 ≤ 64
  have := dep_steps st
  omega
theorem eq_steps {K : PySem.W.Frag} {H : Hp} {l p : Addr} {ys : List V} {st : List (Int × Int)} {Q : VK} (hl : H l = some (.lst ys)) (h : StepsAt H ys st) (hne : st ≠ []) (hp : H p = some (.lst [])) (q : Q (.bl false) H) : rEqD K (.ref l) (.ref p) H Q := by
  refine ⟨_, _, .lst (SqL.of hl) h.dp, .lst (SqL.of hp) .nil, shaped_steps st, by decide +kernel, ?_⟩
  cases st with
  | nil => exact absurd rfl hne
  | cons x r => exact q
/-- the slots before each step's -/
def formers (st : List (Int × Int)) : List Int := 0 :: st.map (·.2)
theorem SOk.at {z : Int} {ns : List Str} {es : List En} : ∀ {st : List (Int × Int)} {low s : Int} {i : Nat} {p : Int × Int} {f : Int}, SOk z ns es low s st → st[i]? = some p → (s :: st.map (·.2))[i]? = some f → sFrom z ns es p.1 f = p.2
  | [], _, _, i, p, f, _, h, _ => by simp at h
  | x :: r, low, s, 0, p, f, ⟨_, _, _, _, k, _⟩, h, g => by
    cases h
    cases g
    exact k
  | x :: r, low, s, i + 1, p, f, ⟨_, _, _, _, _, k⟩, h, g => SOk.at k (by simpa using h) (by simpa using g)
def sp_is_step (_ : PySem.W.Frag) : Sp := fun vs H Q _ => ∃ (t : Addr) (p : Int × Int), vs = [.ref t] ∧ H t = some (.tup [.int p.1, .int p.2]) ∧ ∀ H', Same H H' → Q (.bl true) H'
def sp_steps_ascend (_ : PySem.W.Frag) : Sp := fun vs H Q _ => ∃ (a : Addr) (ys : List V) (st : List (Int × Int)) (z : Int) (ns : List Str) (es : List En), vs = [.ref a] ∧ H a = some (.lst ys) ∧ StepsAt H ys st ∧ SOk z ns es (-1) 0 st ∧ st ≠ [] ∧ ∀ H', Same H H' → Q (.bl true) H'
def sp_shows_pushed (K : PySem.W.Frag) : Sp := fun vs H Q _ => ∃ (p : Addr) (b : Bool) (z : Int) (ns : List Str) (es : List En) (a : Addr) (ys : List V) (st : List (Int × Int)), vs = [.ref p, .ref a] ∧ LogAt K H p b z ns es ∧ H a = some (.lst ys) ∧ StepsAt H ys st ∧ Fine z es ∧ SOk z ns es (-1) 0 st ∧ st ≠ [] ∧ ∀ H', Same H H' → Q (.bl true) H'
def sp_shows_pair (K : PySem.W.Frag) : Sp := fun vs H Q _ => ∃ (p : Addr) (b : Bool) (z : Int) (ns : List Str) (es : List En) (w : Str) (i j : Nat), vs = [.ref p, .str w, .int (i : Int), .int (j : Int)] ∧ LogAt K H p b z ns es ∧ POk z es w i j ∧ ∀ H', Same H H' → Q (.bl true) H'
def sp_shows_obstacle (K : PySem.W.Frag) : Sp := fun vs H Q _ => ∃ (p : Addr) (b : Bool) (z : Int) (ns : List Str) (es : List En) (v : V), vs = [.ref p, v] ∧ LogAt K H p b z ns es ∧ (v = .non ∧ (∀ H', Same H H' → Q (.bl false) H') ∨ ∃ t th, v = .ref t ∧ ThingAt H t th ∧ Right z ns es th ∧ ∀ H', Same H H' → Q (.bl true) H')
theorem loop_tup {K : PySem.W.Frag} {a : Addr} {g : TG} {tb : TS} {D : Ends} {σ : L2.St} {H : Hp} (xs : List V) (Pv : Nat → L2.St → Hp → Prop) (h0 : Pv 0 σ H) (hl : ∀ i σ' H', i ≤ xs.length → Pv i σ' H' → SqT K H' a xs)
    (hs : ∀ (i : Nat) x σ' H', xs[i]? = some x → Pv i σ' H' → g x σ' H' fun σ2 H2 => tb { D with nx := Pv (i + 1), ct := Pv (i + 1), bk := D.nx } σ2 H2) (hd : ∀ σ' H', Pv xs.length σ' H' → D.nx σ' H') : LoopR (Itt K a) g tb D σ H :=
  for_tup Pv h0 hl hs hd
/-! ### the law's own judgement -/
def sp_law_two (_ : PySem.W.Frag) : Sp := fun vs H Q _ => ∃ (s : Addr) (z : Int) (es : List En) (t : Addr) (w : Str) (i j : Nat), vs = [.ref s, .int z, .ref t] ∧ SizeOk z ∧ es.length ≤ 200 ∧ EntsAt H s es ∧ H t = some (.tup [.str w, .int (i : Int), .int (j : Int)]) ∧ POk z es w i j ∧ ∀ H', Same H H' → Q (.bl true) H'
def sp_law_steps (_ : PySem.W.Frag) : Sp := fun vs H Q _ => ∃ (s : Addr) (z : Int) (c : Addr) (ns : List Str) (es : List En) (a : Addr) (ys : List V) (st : List (Int × Int)), vs = [.ref s, .int z, .ref c, .ref a] ∧ WF z ns es ∧ EntsAt H s es ∧ CrewAt H c ns ∧ H a = some (.lst ys) ∧ StepsAt H ys st ∧ Fine z es ∧ SOk z ns es (-1) 0 st ∧ st ≠ [] ∧ ∀ H', Same H H' → Q (.bl true) H'
def sp_law_judged (_ : PySem.W.Frag) : Sp := fun vs H Q _ => ∃ (s : Addr) (z : Int) (c : Addr) (ns : List Str) (es : List En) (t : Addr) (th : Thing), vs = [.ref s, .int z, .ref c, .ref t] ∧ WF z ns es ∧ EntsAt H s es ∧ CrewAt H c ns ∧ ThingAt H t th ∧ Right z ns es th ∧ ∀ H', Same H H' → Q (.bl true) H'
/-! ### what was told -/
def thD : Thing → PyData
  | .two w i j => .tuple [.str w, .int (i : Int), .int (j : Int)]
  | .pushed st => .tuple [.str "pushed", .list (st.map p2D)]
/-- a thing that lies at t, its list new -/
def ThingN (H0 H : Hp) (t : Addr) : Thing → Prop
  | .two w i j => H t = some (.tup [.str w, .int (i : Int), .int (j : Int)])
  | .pushed st => ∃ a ys, H t = some (.tup [.str "pushed", .ref a]) ∧ H0 a = none ∧ H a = some (.lst ys) ∧ StepsAt H ys st
theorem ThingN.at {H0 H : Hp} {t : Addr} {th : Thing} (h : ThingN H0 H t th) : ThingAt H t th := by
  cases th with
  | two w i j => exact h
  | pushed st =>
    obtain ⟨a, ys, h1, _, h2, h3⟩ := h
    exact ⟨a, ys, h1, h2, h3⟩
theorem ThingN.same {H0 H H' : Hp} {t : Addr} {th : Thing} (h : ThingN H0 H t th) (e : Same H H') : ThingN H0 H' t th := by
  cases th with
  | two w i j => exact e _ _ h
  | pushed st =>
    obtain ⟨a, ys, h1, h0, h2, h3⟩ := h
    exact ⟨a, ys, e _ _ h1, h0, e _ _ h2, h3.same e⟩
/-- a change of another list -/
theorem ThingN.mut {H0 H : Hp} {t L : Addr} {th : Thing} {xs : List V} {o u : HO} (h : ThingN H0 H t th) (hL : H L = some (.lst xs)) (h0 : H0 L = some u) : ThingN H0 (upd H L o) t th := by
  cases th with
  | two w i j => exact upd_keep (show H t = _ from h) (ne_of (show H t = _ from h) hL (by simp))
  | pushed st =>
    obtain ⟨a, ys, h1, k0, h2, h3⟩ := h
    have n : a ≠ L := fun k => by
      rw [k] at k0
      rw [k0] at h0
      cases h0
    exact ⟨a, ys, upd_keep h1 (ne_of h1 hL (by simp)), k0, upd_keep h2 n, h3.mut hL⟩
theorem ThingN.dp {K : PySem.W.Frag} {H0 H : Hp} {t : Addr} {th : Thing} (h : ThingN H0 H t th) : Dp K H (.ref t) (thD th) := by
  cases th with
  | two w i j => exact .tup (SqT.of (show H t = _ from h)) (.cons (.str _) (.cons (.int _) (.cons (.int _) .nil)))
  | pushed st =>
    obtain ⟨a, ys, h1, _, h2, h3⟩ := h
    exact .tup (SqT.of h1) (.cons (.str _) (.cons (.lst (SqL.of h2) h3.dp) .nil))
/-- the answer of obstacle, as it lies -/
def Told2 (z : Int) (ns : List Str) (es : List En) (H0 H : Hp) (v : V) : Prop := (v = .non ∧ obsD z ns es = .none) ∨ ∃ t th, v = .ref t ∧ ThingN H0 H t th ∧ Right z ns es th ∧ thD th = obsD z ns es
theorem p2D_inj {p q : Int × Int} (h : p2D p = p2D q) : p = q := by
  obtain ⟨a, b⟩ := p
  obtain ⟨c, d⟩ := q
  unfold p2D at h
  simp only [PyData.tuple.injEq, List.cons.injEq, PyData.int.injEq, and_true] at h
  rw [h.1, h.2]
theorem map_p2D_inj : ∀ {xs ys : List (Int × Int)}, xs.map p2D = ys.map p2D → xs = ys
  | [], [], _ => rfl
  | [], _ :: _, h => by cases h
  | _ :: _, [], h => by cases h
  | x :: xs, y :: ys, h => by
    rw [List.map_cons, List.map_cons, List.cons.injEq] at h
    rw [p2D_inj h.1, map_p2D_inj h.2]
theorem own_told {z : Int} {ns : List Str} {es : List En} {H0 H : Hp} {v : V} (hz : 1 ≤ z) (pos : ∀ e ∈ es, 0 ≤ e.2) (o : NbM.Own H0 H v (obsD z ns es)) : Told2 z ns es H0 H v := by
  rcases o with h | ⟨t, h1, h2, ⟨w, i, j, h3, h4⟩ | ⟨a, ys, st, h3, h4, h5, h6, h7⟩⟩
  · exact .inl h
  · rcases obs_ok (ns := ns) hz pos with k | ⟨w', i', j', k1, k2⟩ | ⟨k1, _⟩
    · rw [k] at h3
      cases h3
    · rw [h3] at k1
      unfold duoD at k1
      simp only [PyData.tuple.injEq, List.cons.injEq, PyData.int.injEq, PyData.str.injEq, and_true] at k1
      obtain ⟨rfl, rfl, rfl⟩ := k1
      exact .inr ⟨t, .two w i' j', h1, h4, k2, h3.symm⟩
    · rw [k1] at h3
      simp at h3
  · rcases obs_ok (ns := ns) hz pos with k | ⟨w', i', j', k1, k2⟩ | ⟨k1, k2, k3, k4⟩
    · rw [k] at h3
      cases h3
    · rw [k1] at h3
      unfold duoD at h3
      simp at h3
    · rw [h3] at k1
      simp only [PyData.tuple.injEq, List.cons.injEq, PyData.list.injEq, and_true, true_and] at k1
      have := map_p2D_inj k1
      subst this
      exact .inr ⟨t, .pushed _, h1, ⟨a, ys, h5, h4, h6, h7⟩, ⟨k2, k3, k4⟩, h3.symm⟩
theorem Told2.same {z : Int} {ns : List Str} {es : List En} {H0 H H' : Hp} {v : V} (h : Told2 z ns es H0 H v) (e : Same H H') : Told2 z ns es H0 H' v := by
  rcases h with h | ⟨t, th, h1, h2, h3⟩
  · exact .inl h
  · exact .inr ⟨t, th, h1, h2.same e, h3⟩
theorem Told2.dp {K : PySem.W.Frag} {z : Int} {ns : List Str} {es : List En} {H0 H : Hp} {v : V} (h : Told2 z ns es H0 H v) : Dp K H v (obsD z ns es) := by
  rcases h with ⟨rfl, h⟩ | ⟨t, th, rfl, h2, _, h3⟩
  · rw [h]
    exact .non
  · rw [← h3]
    exact h2.dp
theorem Told2.mut {z : Int} {ns : List Str} {es : List En} {H0 H : Hp} {v : V} {L : Addr} {xs : List V} {o u : HO} (h : Told2 z ns es H0 H v) (hL : H L = some (.lst xs)) (h0 : H0 L = some u) : Told2 z ns es H0 (upd H L o) v := by
  rcases h with h | ⟨t, th, h1, h2, h3⟩
  · exact .inl h
  · exact .inr ⟨t, th, h1, h2.mut hL h0, h3⟩
theorem Told2.non {z : Int} {ns : List Str} {es : List En} {H0 H : Hp} {v : V} (h : Told2 z ns es H0 H v) : v = .non ↔ obsD z ns es = .none := by
  rcases h with ⟨rfl, h⟩ | ⟨t, th, rfl, _, _, h⟩
  · exact ⟨fun _ => h, fun _ => rfl⟩
  · refine ⟨fun k => (by cases k), fun k => ?_⟩
    rw [k] at h
    cases th with
    | two w i j => cases h
    | pushed st => cases h
theorem Told2.rep {z : Int} {ns : List Str} {es : List En} {H0 H : Hp} {v : V} (h : Told2 z ns es H0 H v) : v = .non ∨ ∃ a, v = .ref a := by
  rcases h with ⟨h, _⟩ | ⟨t, _, h, _⟩
  · exact .inl h
  · exact .inr ⟨t, h⟩
theorem dp_mkt {K : PySem.W.Frag} {H : Hp} {v : V} {w : Int × Option Int} (h : Dp K H v (mkD w)) : ∃ t, v = .ref t ∧ SqT K H t [.int w.1, oV w.2] := by
  obtain ⟨i, j⟩ := w
  cases j <;> cases h with
  | tup a b =>
    cases b with
    | cons b1 b2 =>
      cases b1
      cases b2 with
      | cons b1 b2 =>
        cases b1
        cases b2
        exact ⟨_, rfl, a⟩
theorem len_lwalk {z : Int} {ns : List Str} {es : List En} (few : es.length ≤ 200) : (lwalk z ns es).length ≤ 400 := by
  have h1 := len_seen z es
  have h2 := len_marksG (seen z es) 0
  unfold lwalk
  rw [List.length_zip]
  have : (marks z es).length ≤ 400 := by
    show (marksG 0 (seen z es)).length ≤ 400
    omega
  omega
/-! ### repr of any data -/
section
variable {X : Cx}
def rRepV (K : PySem.W.Frag) : List V → Hp → VK → Prop := fun xs H Q => ∃ (x : V) (d : PyData), xs = [x] ∧ (x = .non ∨ ∃ a, x = .ref a) ∧ Dp K H x d ∧ d.showable = true ∧ d.hasDict = false ∧ d.depth ≤ 60 ∧ d.shown.length ≤ sizeLine ∧ Q (.str d.shown) H
theorem call_repV (hg : X.A.guards = some []) (hu : X.A.units + 64 < cLine) : CallR X (.builtin "repr") (rRepV X.K) := by
  intro pins s σ H xs us Q I r h
  obtain ⟨x, d, rfl, hx, hd, hs, hn, hz, hl, q⟩ := h
  rcases hx with rfl | ⟨a, rfl⟩
  · obtain ⟨u, rfl, r1⟩ := vals1 r
    cases r1
    cases hd
    exact PySem.P.repr_of_none ⟨.str _, H, I.tok _, ⟨_, rfl⟩, q⟩
  · exact call_repD hg hu pins s σ H _ us Q I r ⟨a, d, rfl, hd, hs, hn, hz, hl, q⟩
end
/-! ### it is shown -/
theorem SOk.bnd {z : Int} {ns : List Str} {es : List En} : ∀ {st : List (Int × Int)} {low s : Int}, SOk z ns es low s st → -1 ≤ low → 0 ≤ s → ∀ p ∈ st, 0 ≤ p.1 ∧ (∃ e ∈ es, p.1 ≤ e.2 / z) ∧ 0 ≤ p.2 ∧ p.2 ≤ (es.length : Int) + 1
  | [], _, _, _, _, _, p, hp => by cases hp
  | x :: r, low, s, ⟨h1, h2, h3, h4, _, h6⟩, hl, hs, p, hp => by
    rcases List.mem_cons.mp hp with rfl | hp
    · exact ⟨by omega, h2, by omega, h4⟩
    · exact SOk.bnd h6 (by omega) (by omega) p hp
theorem shw_obs {z : Int} {ns : List Str} {es : List En} (hw : WF z ns es) (hl : ∀ e ∈ es, e.2 < 10 ^ 60) : (obsD z ns es).showable = true ∧ (obsD z ns es).hasDict = false ∧ (obsD z ns es).depth ≤ 60 ∧ (obsD z ns es).shown.length ≤ sizeLine := by
  have few := hw.en.few
  have fin : ∀ {W D : Nat} {d : PyData}, Shw W D d → W ≤ 200000 → D ≤ 60 → d.showable = true ∧ d.hasDict = false ∧ d.depth ≤ 60 ∧ d.shown.length ≤ sizeLine := fun s h1 h2 => ⟨s.sh, s.nd, Nat.le_trans s.dp h2, s.fits h1⟩
  rcases obs_ok (ns := ns) hw.sz.1 (wf_pos hw) with k | ⟨w, i, j, k1, k2, e, f, k3, k4, k5⟩ | ⟨k1, k2, k3, k4⟩
  · rw [k]
    exact fin shw_non (by decide) (by decide)
  · rw [k1]
    have jl := (List.getElem?_eq_some_iff.mp k4).1
    have hn : nameOk w = true := by
      rcases k5 with ⟨rfl, _⟩ | ⟨rfl, _⟩ | ⟨rfl, _⟩ <;> decide +kernel
    refine fin (shw_tup (W := 201) (D := 0) (n := 3) (fun d hd => ?_) (Nat.le_refl _)) (by decide) (by decide)
    rcases List.mem_cons.mp hd with rfl | hd
    · exact (shw_name hn).mono (by decide) (by decide)
    · rcases List.mem_cons.mp hd with rfl | hd
      · exact shw_int (by omega) (by omega)
      · cases List.mem_singleton.mp hd
        exact shw_int (by omega) (by omega)
  · rw [k1]
    have sl := k3.len
    have hb := k3.bnd (by omega) (by omega)
    have h1 : Shw 81405 2 (.list ((push z ns es).map p2D)) := shw_list (W := 404) (D := 1) (n := 201) (fun d hd => by
      obtain ⟨p, hp, rfl⟩ := List.mem_map.mp hd
      obtain ⟨b1, ⟨e, he, b2⟩, b3, b4⟩ := hb p hp
      have h5 := hl e he
      have h6 : e.2 / z ≤ e.2 := Int.ediv_le_self _ (wf_pos hw e he)
      refine shw_tup (W := 201) (D := 0) (n := 2) (fun d hd => ?_) (Nat.le_refl _)
      rcases List.mem_cons.mp hd with rfl | hd
      · exact shw_int (by omega) (by omega)
      · cases List.mem_singleton.mp hd
        exact shw_int (by omega) (by omega)) (by rw [List.length_map]; omega)
    refine fin (shw_tup (W := 81405) (D := 2) (n := 2) (fun d hd => ?_) (Nat.le_refl _)) (by decide) (by decide)
    rcases List.mem_cons.mp hd with rfl | hd
    · exact (shw_name (by decide +kernel)).mono (by decide) (by decide)
    · cases List.mem_singleton.mp hd
      exact h1

end NbH

set_option Elab.async false
set_option linter.all false
set_option maxRecDepth 100000
set_option maxHeartbeats 4000000
/-! The walks block by block: e and l of each block, as the document has them. -/
namespace NbI
open PySem PySem.Spec PyProof.Rows L2 Nb NbE NbS NbF NbP NbK NbL NbX NbW NbZ NbM NbQ NbC NbG NbH
/-- a slot in some window for a block -/
def InW (z : Int) (ns : List Str) (es : List En) (q k : Int) : Prop := ∃ p ∈ wins z es ns q, p.1 ≤ k ∧ k ≤ p.2
section
variable {z : Int} {ns : List Str} {es : List En} {q s k : Int}
theorem InW.le (h : InW z ns es q k) : k ≤ (es.length : Int) := by
  obtain ⟨p, hp, _, h2⟩ := h
  have := wins_le p hp
  omega
theorem sFrom_min (hs : s ≤ k) (h : InW z ns es q k) : sFrom z ns es q s ≤ k := by
  obtain ⟨p, hp, h1, h2⟩ := h
  have hc : max p.1 s ∈ cand s (wins z es ns q) := List.mem_map.mpr ⟨p, List.mem_filter.mpr ⟨hp, decide_eq_true (by omega)⟩, rfl⟩
  have := (slotF_cand s (wins z es ns q) ((es.length : Int) + 1)).2.1 _ hc
  unfold sFrom
  omega
theorem sFrom_in (h : sFrom z ns es q s ≤ (es.length : Int)) : s ≤ sFrom z ns es q s ∧ InW z ns es q (sFrom z ns es q s) := by
  rcases (slotF_cand s (wins z es ns q) ((es.length : Int) + 1)).2.2 with h1 | h1
  · unfold sFrom at h
    omega
  · obtain ⟨p, hp, h2⟩ := List.mem_map.mp h1
    obtain ⟨h3, h4⟩ := List.mem_filter.mp hp
    have h5 := of_decide_eq_true h4
    unfold sFrom at h ⊢
    rw [← h2]
    exact ⟨by omega, p, h3, by omega, by omega⟩
theorem sFrom_idem (h : sFrom z ns es q s ≤ (es.length : Int)) : sFrom z ns es q (sFrom z ns es q s) = sFrom z ns es q s := by
  obtain ⟨h1, h2⟩ := sFrom_in h
  have h3 := sFrom_min (Int.le_refl _) h2
  obtain ⟨h4, _⟩ := sFrom_in (z := z) (ns := ns) (es := es) (q := q) (s := sFrom z ns es q s) (by omega)
  omega
/-- the slots up to s, the greatest of each window -/
def candU (s : Int) (ws : List (Int × Int)) : List Int := (ws.filter fun p => decide (p.1 ≤ min p.2 s)).map fun p => min p.2 s
theorem slotU_cand (s : Int) : ∀ (ws : List (Int × Int)) (f : Int), f ≤ slotU s ws f ∧ (∀ c ∈ candU s ws, c ≤ slotU s ws f) ∧ (slotU s ws f = f ∨ slotU s ws f ∈ candU s ws)
  | [], f => ⟨Int.le_refl _, fun c hc => by simp [candU] at hc, .inl rfl⟩
  | p :: r, f => by
    rw [slotU_cons]
    by_cases h : p.1 ≤ min p.2 s
    · have hc : candU s (p :: r) = min p.2 s :: candU s r := by
        unfold candU
        rw [List.filter_cons_of_pos (by simpa using h), List.map_cons]
      rw [if_pos h, hc]
      obtain ⟨h1, h2, h3⟩ := slotU_cand s r (max f (min p.2 s))
      refine ⟨by omega, fun c hm => ?_, ?_⟩
      · rcases List.mem_cons.mp hm with rfl | hm
        · omega
        · exact h2 c hm
      · rcases h3 with h3 | h3
        · by_cases h4 : min p.2 s ≤ f
          · exact .inl (by omega)
          · exact .inr (List.mem_cons.mpr (.inl (by omega)))
        · exact .inr (List.mem_cons_of_mem _ h3)
    · have hc : candU s (p :: r) = candU s r := by
        unfold candU
        rw [List.filter_cons_of_neg (by simpa using h)]
      rw [if_neg h, hc]
      exact slotU_cand s r f
theorem sUpTo_max (hs : k ≤ s) (h : InW z ns es q k) : k ≤ sUpTo z ns es q s := by
  obtain ⟨p, hp, h1, h2⟩ := h
  have hc : min p.2 s ∈ candU s (wins z es ns q) := List.mem_map.mpr ⟨p, List.mem_filter.mpr ⟨hp, decide_eq_true (by omega)⟩, rfl⟩
  have := (slotU_cand s (wins z es ns q) (-1)).2.1 _ hc
  unfold sUpTo
  omega
theorem sUpTo_in (h : 0 ≤ sUpTo z ns es q s) : sUpTo z ns es q s ≤ s ∧ InW z ns es q (sUpTo z ns es q s) := by
  rcases (slotU_cand s (wins z es ns q) (-1)).2.2 with h1 | h1
  · unfold sUpTo at h
    omega
  · obtain ⟨p, hp, h2⟩ := List.mem_map.mp h1
    obtain ⟨h3, h4⟩ := List.mem_filter.mp hp
    have h5 := of_decide_eq_true h4
    unfold sUpTo at h ⊢
    rw [← h2]
    exact ⟨by omega, p, h3, by omega, by omega⟩
theorem sUpTo_idem (h : 0 ≤ sUpTo z ns es q s) : sUpTo z ns es q (sUpTo z ns es q s) = sUpTo z ns es q s := by
  obtain ⟨h1, h2⟩ := sUpTo_in h
  have h3 := sUpTo_max (Int.le_refl _) h2
  obtain ⟨h4, _⟩ := sUpTo_in (z := z) (ns := ns) (es := es) (q := q) (s := sUpTo z ns es q s) (by omega)
  omega
theorem sUpTo_le (hs : -1 ≤ s) : sUpTo z ns es q s ≤ s := by
  by_cases h : 0 ≤ sUpTo z ns es q s
  · exact (sUpTo_in h).1
  · omega
end
/-! ### e of each block -/
def eB (z : Int) (ns : List Str) (es : List En) : Nat → Int
  | 0 => sFrom z ns es 0 0
  | q + 1 => sFrom z ns es ((q + 1 : Nat) : Int) (eB z ns es q)
def eI (z : Int) (ns : List Str) (es : List En) (q : Int) : Int := eB z ns es q.toNat
/-- the slot from which a block's is sought -/
def pI (z : Int) (ns : List Str) (es : List En) (f : Int) : Int := if f ≤ 0 then 0 else eI z ns es (f - 1)
section
variable {z : Int} {ns : List Str} {es : List En} {q s k f b : Int}
theorem eI_eq (h : 0 ≤ q) : eI z ns es q = sFrom z ns es q (pI z ns es q) := by
  obtain ⟨n, rfl⟩ : ∃ n : Nat, q = (n : Int) := ⟨q.toNat, by omega⟩
  cases n with
  | zero => rfl
  | succ n =>
    unfold pI
    rw [if_neg (by omega)]
    unfold eI
    rw [show (((n + 1 : Nat) : Int) - 1).toNat = n by omega, show (((n + 1 : Nat) : Int)).toNat = n + 1 by omega]
    rfl
theorem pI_succ (h : 0 ≤ q) : pI z ns es (q + 1) = eI z ns es q := by
  unfold pI
  rw [if_neg (by omega), show q + 1 - 1 = q by omega]
theorem eB_le : ∀ q : Nat, eB z ns es q ≤ (es.length : Int) + 1
  | 0 => sFrom_le
  | _ + 1 => sFrom_le
theorem eI_le : eI z ns es q ≤ (es.length : Int) + 1 := eB_le _
theorem eB_pos : ∀ q : Nat, 0 ≤ eB z ns es q
  | 0 => sFrom_ge (by omega)
  | q + 1 => Int.le_trans (eB_pos q) (sFrom_ge (eB_le q))
theorem eI_pos : 0 ≤ eI z ns es q := eB_pos _
theorem pI_bd : 0 ≤ pI z ns es f ∧ pI z ns es f ≤ (es.length : Int) + 1 := by
  unfold pI
  split
  · omega
  · exact ⟨eI_pos, eI_le⟩
theorem eI_up (h : 0 ≤ q) : eI z ns es q ≤ eI z ns es (q + 1) := by
  rw [eI_eq (q := q + 1) (by omega), pI_succ h]
  exact sFrom_ge eI_le
theorem eI_mono (h0 : 0 ≤ q) : ∀ k : Nat, eI z ns es q ≤ eI z ns es (q + k)
  | 0 => by rw [show q + ((0 : Nat) : Int) = q by omega]; exact Int.le_refl _
  | k + 1 => by
    have h1 := eI_mono h0 k
    have h2 := eI_up (z := z) (ns := ns) (es := es) (q := q + k) (by omega)
    rw [show q + ((k + 1 : Nat) : Int) = q + k + 1 by omega]
    omega
theorem eI_mono' (h0 : 0 ≤ q) (h : q ≤ f) : eI z ns es q ≤ eI z ns es f := by
  have := eI_mono (z := z) (ns := ns) (es := es) h0 (f - q).toNat
  rwa [show q + ((f - q).toNat : Int) = f by omega] at this
theorem sFrom_wins {q f : Int} (h : wins z es ns q = wins z es ns f) : sFrom z ns es q s = sFrom z ns es f s := by
  unfold sFrom
  rw [h]
theorem sUpTo_wins {q f : Int} (h : wins z es ns q = wins z es ns f) : sUpTo z ns es q s = sUpTo z ns es f s := by
  unfold sUpTo
  rw [h]
/-- all blocks of a gap have one e -/
theorem gap_e (h : ∀ e ∈ es, e.2 / z < f ∨ b ≤ e.2 / z) (h0 : 0 ≤ f) (hm : eI z ns es f ≤ (es.length : Int)) : ∀ k : Nat, f + k < b → eI z ns es (f + k) = eI z ns es f
  | 0, _ => by rw [show f + ((0 : Nat) : Int) = f by omega]
  | k + 1, hk => by
    have ih := gap_e h h0 hm k (by omega)
    rw [show f + ((k + 1 : Nat) : Int) = f + k + 1 by omega, eI_eq (by omega), pI_succ (by omega), ih, sFrom_wins (wins_gap h (by omega) (by omega) : _ = wins z es ns f)]
    rw [eI_eq h0] at hm ⊢
    exact sFrom_idem hm
theorem gap_e' (h : ∀ e ∈ es, e.2 / z < f ∨ b ≤ e.2 / z) (h0 : 0 ≤ f) (hm : eI z ns es f ≤ (es.length : Int)) (h1 : f ≤ q) (h2 : q < b) : eI z ns es q = eI z ns es f := by
  have := gap_e h h0 hm (q - f).toNat (by omega)
  rwa [show f + ((q - f).toNat : Int) = q by omega] at this
/-- the walk over spans, where it goes through -/
theorem walk_e {xs : List Int} : ∀ {f : Int}, 0 ≤ f → xs.Pairwise (· < ·) → (∀ b ∈ xs, f ≤ b) → (∀ e ∈ es, e.2 / z < f ∨ e.2 / z ∈ xs) → (∀ b ∈ xs, eI z ns es b ≤ (es.length : Int)) → walkE (sFrom z ns es) (es.length : Int) (pI z ns es f) (startsG f xs) = (startsG f xs).map (eI z ns es) := by
  induction xs with
  | nil => intros; rfl
  | cons b r ih =>
    intro f h0 hp hb he hm
    obtain ⟨p1, p2⟩ := List.pairwise_cons.mp hp
    have hfb := hb b List.mem_cons_self
    have hbm := hm b List.mem_cons_self
    have rest := ih (f := b + 1) (by omega) p2 (fun x hx => p1 x hx) (fun e hm => by
      rcases he e hm with h | h
      · exact .inl (by omega)
      · rcases List.mem_cons.mp h with h | h
        · exact .inl (by omega)
        · exact .inr h) (fun x hx => hm x (List.mem_cons_of_mem _ hx))
    rw [pI_succ (by omega)] at rest
    rw [startsG_cons]
    by_cases h : f < b
    · have hf : eI z ns es f ≤ (es.length : Int) := Int.le_trans (eI_mono' h0 (by omega)) hbm
      have gp : pI z ns es b = eI z ns es f := by
        unfold pI
        rw [if_neg (by omega)]
        exact gap_e' (b := b) (fun e hm => by
          rcases he e hm with k | k
          · exact .inl k
          · rcases List.mem_cons.mp k with k | k
            · exact .inr (by omega)
            · have := p1 _ k
              exact .inr (by omega)) h0 hf (by omega) (by omega)
      rw [if_pos h]
      show walkE (sFrom z ns es) (es.length : Int) (pI z ns es f) (f :: b :: startsG (b + 1) r) = _
      rw [walkE_cons, ← eI_eq h0, if_neg (by omega), walkE_cons, ← gp, ← eI_eq (by omega), if_neg (by omega), rest, gp]
      rfl
    · have : f = b := by omega
      subst this
      rw [if_neg h]
      show walkE (sFrom z ns es) (es.length : Int) (pI z ns es f) (f :: startsG (f + 1) r) = _
      rw [walkE_cons, ← eI_eq h0, if_neg (by omega), rest]
      rfl
/-- .. where it does not -/
theorem walk_x {xs : List Int} : ∀ {f : Int}, 0 ≤ f → xs.Pairwise (· < ·) → (∀ b ∈ xs, f ≤ b) → (∀ e ∈ es, e.2 / z < f ∨ e.2 / z ∈ xs) → (∃ b ∈ xs, (es.length : Int) < eI z ns es b) → ∃ x ∈ walkE (sFrom z ns es) (es.length : Int) (pI z ns es f) (startsG f xs), (es.length : Int) < x := by
  induction xs with
  | nil =>
    rintro f _ _ _ _ ⟨b, hb, _⟩
    cases hb
  | cons b r ih =>
    rintro f h0 hp hb he ⟨b', hb', hx⟩
    obtain ⟨p1, p2⟩ := List.pairwise_cons.mp hp
    have hfb := hb b List.mem_cons_self
    have step : ∃ x ∈ walkE (sFrom z ns es) (es.length : Int) (pI z ns es b) (b :: startsG (b + 1) r), (es.length : Int) < x := by
      rw [walkE_cons, ← eI_eq (by omega)]
      by_cases hbm : (es.length : Int) < eI z ns es b
      · rw [if_pos hbm]
        exact ⟨_, List.mem_singleton.mpr rfl, hbm⟩
      · rw [if_neg hbm]
        have hb2 : b' ∈ r := by
          rcases List.mem_cons.mp hb' with rfl | h
          · exact absurd hx hbm
          · exact h
        obtain ⟨x, h1, h2⟩ := ih (f := b + 1) (by omega) p2 (fun x hx => p1 x hx) (fun e hm => by
          rcases he e hm with h | h
          · exact .inl (by omega)
          · rcases List.mem_cons.mp h with h | h
            · exact .inl (by omega)
            · exact .inr h) ⟨b', hb2, hx⟩
        rw [pI_succ (by omega)] at h1
        exact ⟨x, List.mem_cons_of_mem _ h1, h2⟩
    rw [startsG_cons]
    by_cases h : f < b
    · rw [if_pos h]
      show ∃ x ∈ walkE (sFrom z ns es) (es.length : Int) (pI z ns es f) (f :: b :: startsG (b + 1) r), (es.length : Int) < x
      rw [walkE_cons, ← eI_eq h0]
      by_cases hf : (es.length : Int) < eI z ns es f
      · rw [if_pos hf]
        exact ⟨_, List.mem_singleton.mpr rfl, hf⟩
      · rw [if_neg hf]
        have gp : pI z ns es b = eI z ns es f := by
          unfold pI
          rw [if_neg (by omega)]
          exact gap_e' (b := b) (fun e hm => by
            rcases he e hm with k | k
            · exact .inl k
            · rcases List.mem_cons.mp k with k | k
              · exact .inr (by omega)
              · have := p1 _ k
                exact .inr (by omega)) h0 (by omega) (by omega) (by omega)
        rw [gp] at step
        obtain ⟨x, h1, h2⟩ := step
        exact ⟨x, List.mem_cons_of_mem _ h1, h2⟩
    · have : f = b := by omega
      subst this
      rw [if_neg h]
      exact step
theorem top_mem (hz : 1 ≤ z) (pos : ∀ e ∈ es, 0 ≤ e.2) : (es = [] ∧ topB z es = -1) ∨ (0 ≤ topB z es ∧ ∃ e ∈ es, e.2 / z = topB z es) := by
  cases es with
  | nil => exact .inl ⟨rfl, rfl⟩
  | cons e r =>
    right
    obtain ⟨h1, h2, h3⟩ := foldl_max (e.2 / z) (r.map fun e => e.2 / z)
    have h0 : 0 ≤ e.2 / z := Int.ediv_nonneg (pos e List.mem_cons_self) (by omega)
    have ht : topB z (e :: r) = (r.map fun e => e.2 / z).foldl max (e.2 / z) := rfl
    rw [ht]
    refine ⟨by omega, ?_⟩
    rcases h1 with h1 | h1
    · exact ⟨e, List.mem_cons_self, h1.symm⟩
    · obtain ⟨e', he, h⟩ := List.mem_map.mp h1
      exact ⟨e', List.mem_cons_of_mem _ he, h⟩
/-- R1: possible, exactly where nothing bars and the walk from below goes through -/
theorem poss_iff (hz : 1 ≤ z) (pos : ∀ e ∈ es, 0 ≤ e.2) : obsD z ns es = .none ↔ Fine z es ∧ ∀ q, 0 ≤ q → q ≤ topB z es → eI z ns es q ≤ (es.length : Int) := by
  have h1 := push_end (sFrom z ns es) (m := (es.length : Int)) (by omega) (starts z es) 0 (by omega)
  rw [obs_iff hz pos, ← pushed_iff hz pos]
  have e0 : (0 : Int) = pI z ns es 0 := rfl
  have hs := seen_pos hz pos
  have he : ∀ e ∈ es, e.2 / z < 0 ∨ e.2 / z ∈ seen z es := fun e he => .inr ((mem_seen z _ es).mpr ⟨e, he, rfl⟩)
  have h2 : (es.length : Int) < lastS (push z ns es) ↔ ∃ x ∈ walkE (sFrom z ns es) (es.length : Int) 0 (starts z es), (es.length : Int) < x := h1.symm
  rw [h2]
  refine and_congr_right fun F => ?_
  constructor
  · intro h q q0 q1
    rcases top_mem hz pos with ⟨_, ht⟩ | ⟨_, e, hem, ht⟩
    · omega
    · refine Int.le_trans (eI_mono' q0 q1) ?_
      rw [← ht]
      by_cases g : eI z ns es (e.2 / z) ≤ (es.length : Int)
      · exact g
      · refine absurd ?_ h
        have := walk_x (ns := ns) (f := 0) (Int.le_refl 0) (lt_seen z es) hs he ⟨e.2 / z, (mem_seen z _ es).mpr ⟨e, hem, rfl⟩, by omega⟩
        exact this
  · rintro h ⟨x, hx, h3⟩
    have hb : ∀ b ∈ seen z es, eI z ns es b ≤ (es.length : Int) := fun b hb => by
      obtain ⟨e, hem, rfl⟩ := (mem_seen z b es).mp hb
      exact h _ (hs _ hb) (topB_le hem)
    have hw := walk_e (f := 0) (Int.le_refl 0) (lt_seen z es) hs he hb
    have hw' : walkE (sFrom z ns es) (es.length : Int) 0 (starts z es) = (starts z es).map (eI z ns es) := hw
    rw [hw'] at hx
    obtain ⟨q, hq, rfl⟩ := List.mem_map.mp hx
    obtain ⟨k1, b, k2, k3⟩ := (NbH.startsG_ok (seen z es) 0 (lt_seen z es) hs).2 q hq
    have := eI_mono' (z := z) (ns := ns) (es := es) k1 k3
    have := hb b k2
    omega
/-- the slots of the walk from below, of a possible log -/
theorem earl_eq (hz : 1 ≤ z) (pos : ∀ e ∈ es, 0 ≤ e.2) (h : obsD z ns es = .none) : earl z ns es = (starts z es).map (eI z ns es) := by
  obtain ⟨_, h⟩ := (poss_iff hz pos).mp h
  refine walk_e (f := 0) (Int.le_refl 0) (lt_seen z es) (seen_pos hz pos) (fun e he => .inr ((mem_seen z _ es).mpr ⟨e, he, rfl⟩)) fun b hb => ?_
  obtain ⟨e, hem, rfl⟩ := (mem_seen z b es).mp hb
  exact h _ (seen_pos hz pos _ hb) (topB_le hem)
end
/-! ### l of each block -/
def lD (z : Int) (ns : List Str) (es : List En) (t : Int) : Nat → Int
  | 0 => sUpTo z ns es t (es.length : Int)
  | k + 1 => sUpTo z ns es (t - ((k + 1 : Nat) : Int)) (lD z ns es t k)
def lI (z : Int) (ns : List Str) (es : List En) (q : Int) : Int := lD z ns es (topB z es) (topB z es - q).toNat
section
variable {z : Int} {ns : List Str} {es : List En} {q s k f b : Int}
theorem lI_top : lI z ns es (topB z es) = sUpTo z ns es (topB z es) (es.length : Int) := by
  unfold lI
  rw [Int.sub_self]
  rfl
theorem lI_eq (h : q < topB z es) : lI z ns es q = sUpTo z ns es q (lI z ns es (q + 1)) := by
  obtain ⟨n, hn⟩ : ∃ n : Nat, topB z es - q = ((n + 1 : Nat) : Int) := ⟨(topB z es - q - 1).toNat, by omega⟩
  unfold lI
  rw [show (topB z es - q).toNat = n + 1 by omega, show (topB z es - (q + 1)).toNat = n by omega]
  show sUpTo z ns es (topB z es - ((n + 1 : Nat) : Int)) _ = _
  rw [← hn, show topB z es - (topB z es - q) = q by omega]
/-- e lies below l -/
theorem e_le_l (P : ∀ q, 0 ≤ q → q ≤ topB z es → eI z ns es q ≤ (es.length : Int)) : ∀ k : Nat, 0 ≤ topB z es - k → eI z ns es (topB z es - k) ≤ lI z ns es (topB z es - k)
  | 0, h => by
    rw [show topB z es - ((0 : Nat) : Int) = topB z es by omega, lI_top]
    have h1 := P (topB z es) (by omega) (Int.le_refl _)
    rw [eI_eq (by omega)] at h1 ⊢
    exact sUpTo_max h1 (sFrom_in h1).2
  | k + 1, h => by
    have ih := e_le_l P k (by omega)
    have h1 := P (topB z es - ((k + 1 : Nat) : Int)) h (by omega)
    have h2 := eI_up (z := z) (ns := ns) (es := es) (q := topB z es - ((k + 1 : Nat) : Int)) h
    rw [show topB z es - ((k + 1 : Nat) : Int) + 1 = topB z es - k by omega] at h2
    rw [lI_eq (by omega), show topB z es - ((k + 1 : Nat) : Int) + 1 = topB z es - k by omega]
    refine sUpTo_max (by omega) ?_
    rw [eI_eq h] at h1 ⊢
    exact (sFrom_in h1).2
theorem e_le_l' (P : ∀ q, 0 ≤ q → q ≤ topB z es → eI z ns es q ≤ (es.length : Int)) (h0 : 0 ≤ q) (h : q ≤ topB z es) : eI z ns es q ≤ lI z ns es q := by
  have := e_le_l P (topB z es - q).toNat (by omega)
  rwa [show topB z es - ((topB z es - q).toNat : Int) = q by omega] at this
theorem lI_le (P : ∀ q, 0 ≤ q → q ≤ topB z es → eI z ns es q ≤ (es.length : Int)) (h0 : 0 ≤ q) (h : q ≤ topB z es) : lI z ns es q ≤ (es.length : Int) := by
  have h1 := e_le_l' P h0 h
  have h2 := eI_pos (z := z) (ns := ns) (es := es) (q := q)
  by_cases g : q = topB z es
  · subst g
    rw [lI_top] at h1 ⊢
    exact sUpTo_le (by omega)
  · rw [lI_eq (by omega)] at h1 ⊢
    exact (sUpTo_in (by omega)).2.le
theorem lI_up (P : ∀ q, 0 ≤ q → q ≤ topB z es → eI z ns es q ≤ (es.length : Int)) (h0 : 0 ≤ q) (h : q < topB z es) : lI z ns es q ≤ lI z ns es (q + 1) := by
  have h1 := e_le_l' P h0 (by omega)
  have h2 := eI_pos (z := z) (ns := ns) (es := es) (q := q)
  rw [lI_eq h] at h1 ⊢
  exact (sUpTo_in (by omega)).1
theorem lI_in (P : ∀ q, 0 ≤ q → q ≤ topB z es → eI z ns es q ≤ (es.length : Int)) (h0 : 0 ≤ q) (h : q ≤ topB z es) : InW z ns es q (lI z ns es q) := by
  have h1 := e_le_l' P h0 h
  have h2 := eI_pos (z := z) (ns := ns) (es := es) (q := q)
  by_cases g : q = topB z es
  · subst g
    rw [lI_top] at h1 ⊢
    exact (sUpTo_in (by omega)).2
  · rw [lI_eq (by omega)] at h1 ⊢
    exact (sUpTo_in (by omega)).2
theorem eI_in (P : ∀ q, 0 ≤ q → q ≤ topB z es → eI z ns es q ≤ (es.length : Int)) (h0 : 0 ≤ q) (h : q ≤ topB z es) : InW z ns es q (eI z ns es q) := by
  have h1 := P q h0 h
  rw [eI_eq h0] at h1 ⊢
  exact (sFrom_in h1).2
/-- slots that do not fall, each in some window: e is below them -/
theorem e_least {g : Int → Int} (g0 : 0 ≤ g 0) (up : ∀ q, 0 ≤ q → q < f → g q ≤ g (q + 1)) (w : ∀ q, 0 ≤ q → q ≤ f → InW z ns es q (g q)) : ∀ n : Nat, (n : Int) ≤ f → eI z ns es n ≤ g n
  | 0, h => by
    rw [eI_eq (by omega)]
    exact sFrom_min g0 (w 0 (by omega) h)
  | n + 1, h => by
    have ih := e_least g0 up w n (by omega)
    have h1 := up n (by omega) (by omega)
    rw [show ((n + 1 : Nat) : Int) = (n : Int) + 1 by omega, eI_eq (by omega), pI_succ (by omega)]
    exact sFrom_min (by omega) (w _ (by omega) (by omega))
/-- .. l is above them -/
theorem l_most {g : Int → Int} (up : ∀ q, 0 ≤ q → q < topB z es → g q ≤ g (q + 1)) (w : ∀ q, 0 ≤ q → q ≤ topB z es → InW z ns es q (g q)) : ∀ k : Nat, 0 ≤ topB z es - k → g (topB z es - k) ≤ lI z ns es (topB z es - k)
  | 0, h => by
    rw [show topB z es - ((0 : Nat) : Int) = topB z es by omega, lI_top]
    have h1 := w (topB z es) (by omega) (Int.le_refl _)
    exact sUpTo_max h1.le h1
  | k + 1, h => by
    have ih := l_most up w k (by omega)
    have h1 := up (topB z es - ((k + 1 : Nat) : Int)) h (by omega)
    rw [show topB z es - ((k + 1 : Nat) : Int) + 1 = topB z es - k by omega] at h1
    rw [lI_eq (by omega), show topB z es - ((k + 1 : Nat) : Int) + 1 = topB z es - k by omega]
    exact sUpTo_max (by omega) (w _ h (by omega))
theorem l_most' {g : Int → Int} (up : ∀ q, 0 ≤ q → q < topB z es → g q ≤ g (q + 1)) (w : ∀ q, 0 ≤ q → q ≤ topB z es → InW z ns es q (g q)) (h0 : 0 ≤ q) (h : q ≤ topB z es) : g q ≤ lI z ns es q := by
  have := l_most up w (topB z es - q).toNat (by omega)
  rwa [show topB z es - ((topB z es - q).toNat : Int) = q by omega] at this
theorem e_least' {g : Int → Int} (g0 : 0 ≤ g 0) (up : ∀ q, 0 ≤ q → q < f → g q ≤ g (q + 1)) (w : ∀ q, 0 ≤ q → q ≤ f → InW z ns es q (g q)) (h0 : 0 ≤ q) (h : q ≤ f) : eI z ns es q ≤ g q := by
  have := e_least g0 up w q.toNat (by omega)
  rwa [show (q.toNat : Int) = q by omega] at this
/-- the walk from above, as a list from below -/
def upL (g : Int → Int → Int) (s : Int) (qs : List Int) : List Int := (walkL g s qs.reverse).reverse
theorem walkL_app (g : Int → Int → Int) : ∀ (xs : List Int) (s q : Int), walkL g s (xs ++ [q]) = walkL g s xs ++ [g q ((walkL g s xs).getLastD s)]
  | [], s, q => rfl
  | x :: xs, s, q => by
    show g x s :: walkL g (g x s) (xs ++ [q]) = (g x s :: walkL g (g x s) xs) ++ [_]
    rw [walkL_app g xs (g x s) q]
    show _ = g x s :: (walkL g (g x s) xs ++ [_])
    congr 3
    show _ = g q ((g x s :: walkL g (g x s) xs).getLastD s)
    congr 1
    rw [List.getLastD_cons]
theorem upL_cons (g : Int → Int → Int) (s q : Int) (r : List Int) : upL g s (q :: r) = g q ((upL g s r).headD s) :: upL g s r := by
  unfold upL
  rw [List.reverse_cons, walkL_app, List.reverse_append]
  show _ :: _ = _
  congr 2
  generalize walkL g s r.reverse = w
  cases h : w.getLast? with
  | none =>
    rw [List.getLast?_eq_none_iff.mp h]
    rfl
  | some x =>
    obtain ⟨init, rfl⟩ := List.getLast?_eq_some_iff.mp h
    simp
theorem late_upL : late z ns es = upL (sUpTo z ns es) (es.length : Int) (starts z es) := rfl
theorem startsG_head {f b : Int} {r : List Int} (h : f ≤ b) : ∃ r', startsG f (b :: r) = f :: r' := by
  rw [startsG_cons]
  by_cases g : f < b
  · rw [if_pos g]
    exact ⟨_, rfl⟩
  · have : f = b := by omega
    rw [if_neg g, this]
    exact ⟨_, rfl⟩
/-- all blocks of a gap have one l -/
theorem gap_l (P : ∀ q, 0 ≤ q → q ≤ topB z es → eI z ns es q ≤ (es.length : Int)) (h : ∀ e ∈ es, e.2 / z < f ∨ b ≤ e.2 / z) (h0 : 0 ≤ f) (hf : f < b) (hb : b ≤ topB z es) : ∀ k : Nat, f ≤ b - 1 - k → lI z ns es (b - 1 - k) = sUpTo z ns es f (lI z ns es b)
  | 0, _ => by
    rw [show b - 1 - ((0 : Nat) : Int) = b - 1 by omega, lI_eq (by omega), show b - 1 + 1 = b by omega, sUpTo_wins (wins_gap h (by omega) (by omega) : _ = wins z es ns f)]
  | k + 1, hk => by
    have ih := gap_l P h h0 hf hb k (by omega)
    have hp := e_le_l' P (q := b - 1 - k) (by omega) (by omega)
    have hq := eI_pos (z := z) (ns := ns) (es := es) (q := b - 1 - k)
    rw [lI_eq (by omega), show b - 1 - ((k + 1 : Nat) : Int) + 1 = b - 1 - k by omega, sUpTo_wins (wins_gap h (by omega) (by omega) : _ = wins z es ns f), ih]
    exact sUpTo_idem (by omega)
theorem gap_l' (P : ∀ q, 0 ≤ q → q ≤ topB z es → eI z ns es q ≤ (es.length : Int)) (h : ∀ e ∈ es, e.2 / z < f ∨ b ≤ e.2 / z) (h0 : 0 ≤ f) (hb : b ≤ topB z es) (h1 : f ≤ q) (h2 : q < b) : lI z ns es q = sUpTo z ns es f (lI z ns es b) := by
  have := gap_l P h h0 (by omega) hb (b - 1 - q).toNat (by omega)
  rwa [show b - 1 - ((b - 1 - q).toNat : Int) = q by omega] at this
theorem walk_l (P : ∀ q, 0 ≤ q → q ≤ topB z es → eI z ns es q ≤ (es.length : Int)) {xs : List Int} : ∀ {f : Int}, 0 ≤ f → xs.Pairwise (· < ·) → (∀ b ∈ xs, f ≤ b) → (∀ e ∈ es, e.2 / z < f ∨ e.2 / z ∈ xs) → xs ≠ [] → (∀ b ∈ xs, b ≤ topB z es) → topB z es ∈ xs → upL (sUpTo z ns es) (es.length : Int) (startsG f xs) = (startsG f xs).map (lI z ns es) := by
  induction xs with
  | nil => intro f _ _ _ _ h; exact absurd rfl h
  | cons b r ih =>
    intro f h0 hp hb he _ ht hm
    obtain ⟨p1, p2⟩ := List.pairwise_cons.mp hp
    have hfb := hb b List.mem_cons_self
    have hbt := ht b List.mem_cons_self
    have step : upL (sUpTo z ns es) (es.length : Int) (b :: startsG (b + 1) r) = (b :: startsG (b + 1) r).map (lI z ns es) := by
      rw [upL_cons, List.map_cons]
      cases r with
      | nil =>
        have : topB z es = b := by simpa using hm
        show [sUpTo z ns es b (es.length : Int)] = [_]
        rw [← this, lI_top]
      | cons c r =>
        have hbc := p1 c List.mem_cons_self
        have hc := ht c (List.mem_cons_of_mem _ List.mem_cons_self)
        rw [ih (f := b + 1) (by omega) p2 (fun x hx => p1 x hx) (fun e hm => by
          rcases he e hm with h | h
          · exact .inl (by omega)
          · rcases List.mem_cons.mp h with h | h
            · exact .inl (by omega)
            · exact .inr h) (by simp) (fun x hx => ht x (List.mem_cons_of_mem _ hx)) (by
          rcases List.mem_cons.mp hm with h | h
          · omega
          · exact h)]
        obtain ⟨r', hr⟩ := startsG_head (f := b + 1) (b := c) (r := r) (by omega)
        rw [hr, List.map_cons, List.headD_cons, lI_eq (q := b) (by omega)]
    rw [startsG_cons]
    by_cases h : f < b
    · rw [if_pos h]
      show upL (sUpTo z ns es) (es.length : Int) (f :: b :: startsG (b + 1) r) = (f :: b :: startsG (b + 1) r).map (lI z ns es)
      rw [upL_cons, step, List.map_cons (a := f)]
      congr 1
      show sUpTo z ns es f (lI z ns es b) = _
      exact (gap_l' P (fun e hm => by
        rcases he e hm with k | k
        · exact .inl k
        · rcases List.mem_cons.mp k with k | k
          · exact .inr (by omega)
          · have := p1 _ k
            exact .inr (by omega)) h0 hbt (Int.le_refl _) h).symm
    · have : f = b := by omega
      subst this
      rw [if_neg h]
      exact step
theorem late_eq (hz : 1 ≤ z) (pos : ∀ e ∈ es, 0 ≤ e.2) (h : obsD z ns es = .none) : late z ns es = (starts z es).map (lI z ns es) := by
  obtain ⟨_, P⟩ := (poss_iff hz pos).mp h
  rw [late_upL]
  rcases top_mem hz pos with ⟨rfl, _⟩ | ⟨_, e, he, ht⟩
  · rfl
  · refine walk_l P (f := 0) (Int.le_refl 0) (lt_seen z es) (seen_pos hz pos) (fun e he => .inr ((mem_seen z _ es).mpr ⟨e, he, rfl⟩)) ?_ (fun b hb => ?_) ((mem_seen z _ es).mpr ⟨e, he, ht⟩)
    · intro h
      have := (mem_seen z _ es).mpr ⟨e, he, rfl⟩
      rw [h] at this
      cases this
    · obtain ⟨e', he', rfl⟩ := (mem_seen z b es).mp hb
      exact topB_le he'
/-- the span of a block -/
theorem span_at {q : Int} : ∀ {xs : List Int} {f : Int}, xs.Pairwise (· < ·) → (∀ b ∈ xs, f ≤ b) → f ≤ q → (∃ b ∈ xs, q ≤ b) →
    ∃ i st, (startsG f xs)[i]? = some st ∧ ((startsG f xs).filter fun b => decide (b ≤ q)).length = i + 1 ∧ f ≤ st ∧ st ≤ q ∧ (st = q ∨ ∃ b, b ∈ xs ∧ q < b ∧ ∀ x ∈ xs, x < st ∨ b ≤ x) := by
  intro xs
  induction xs with
  | nil =>
    rintro f _ _ _ ⟨b, hb, _⟩
    cases hb
  | cons b r ih =>
    rintro f hp hb hq ⟨b', hb', hle⟩
    obtain ⟨p1, p2⟩ := List.pairwise_cons.mp hp
    have hfb := hb b List.mem_cons_self
    have far : ∀ x ∈ startsG (b + 1) r, b + 1 ≤ x := fun x hx => ((NbH.startsG_ok r (b + 1) p2 fun y hy => p1 y hy).2 x hx).1
    rw [startsG_cons]
    rcases Int.lt_trichotomy q b with h | h | h
    · have hfl : f < b := by omega
      rw [if_pos hfl]
      refine ⟨0, f, rfl, ?_, Int.le_refl _, hq, .inr ⟨b, List.mem_cons_self, h, fun x hx => ?_⟩⟩
      · show (List.filter _ (f :: b :: startsG (b + 1) r)).length = 1
        rw [List.filter_cons_of_pos (by simpa using hq), List.filter_cons_of_neg (by simpa using h), List.filter_eq_nil_iff.mpr fun x hx => by have := far x hx; simp; omega]
        rfl
      · rcases List.mem_cons.mp hx with rfl | hx
        · exact .inr (Int.le_refl _)
        · have := p1 x hx
          exact .inr (by omega)
    · subst h
      have hr : (List.filter (fun b => decide (b ≤ q)) (startsG (q + 1) r)) = [] := List.filter_eq_nil_iff.mpr fun x hx => by have := far x hx; simp; omega
      by_cases hfl : f < q
      · rw [if_pos hfl]
        refine ⟨1, q, rfl, ?_, hq, Int.le_refl _, .inl rfl⟩
        show (List.filter _ (f :: q :: startsG (q + 1) r)).length = 2
        rw [List.filter_cons_of_pos (by simpa using hq), List.filter_cons_of_pos (by simp), hr]
        rfl
      · rw [if_neg hfl]
        refine ⟨0, q, rfl, ?_, hq, Int.le_refl _, .inl rfl⟩
        show (List.filter _ (q :: startsG (q + 1) r)).length = 1
        rw [List.filter_cons_of_pos (by simp), hr]
        rfl
    · have hb2 : b' ∈ r := by
        rcases List.mem_cons.mp hb' with rfl | k
        · omega
        · exact k
      obtain ⟨i, st, h1, h2, h3, h4, h5⟩ := ih (f := b + 1) p2 (fun x hx => p1 x hx) (by omega) ⟨b', hb2, hle⟩
      have h6 : st = q ∨ ∃ c, c ∈ b :: r ∧ q < c ∧ ∀ x ∈ b :: r, x < st ∨ c ≤ x := by
        rcases h5 with h5 | ⟨c, c1, c2, c3⟩
        · exact .inl h5
        · refine .inr ⟨c, List.mem_cons_of_mem _ c1, c2, fun x hx => ?_⟩
          rcases List.mem_cons.mp hx with rfl | hx
          · exact .inl (by omega)
          · exact c3 x hx
      by_cases hfl : f < b
      · rw [if_pos hfl]
        refine ⟨i + 2, st, h1, ?_, by omega, h4, h6⟩
        show (List.filter _ (f :: b :: startsG (b + 1) r)).length = _
        rw [List.filter_cons_of_pos (by simpa using hq), List.filter_cons_of_pos (by simp; omega), List.length_cons, List.length_cons, h2]
      · rw [if_neg hfl]
        refine ⟨i + 1, st, h1, ?_, by omega, h4, h6⟩
        show (List.filter _ (b :: startsG (b + 1) r)).length = _
        rw [List.filter_cons_of_pos (by simp; omega), List.length_cons, h2]
/-- where a block's e and l stand in the lists of the walks -/
theorem at_span (hz : 1 ≤ z) (pos : ∀ e ∈ es, 0 ≤ e.2) (h : obsD z ns es = .none) (h0 : 0 ≤ q) (h1 : q ≤ topB z es) :
    ∃ i, ((starts z es).filter fun b => decide (b ≤ q)).length = i + 1 ∧ (earl z ns es)[i]? = some (eI z ns es q) ∧ (late z ns es)[i]? = some (lI z ns es q) := by
  obtain ⟨_, P⟩ := (poss_iff hz pos).mp h
  rcases top_mem hz pos with ⟨_, ht⟩ | ⟨_, e, he, ht⟩
  · omega
  · obtain ⟨i, st, g1, g2, g3, g4, g5⟩ := span_at (q := q) (lt_seen z es) (seen_pos hz pos) h0 ⟨e.2 / z, (mem_seen z _ es).mpr ⟨e, he, rfl⟩, by omega⟩
    have g1' : (starts z es)[i]? = some st := g1
    refine ⟨i, g2, ?_, ?_⟩
    · rw [earl_eq hz pos h, List.getElem?_map, g1', Option.map_some]
      rcases g5 with rfl | ⟨b, hb, hqb, g5⟩
      · rfl
      · rw [gap_e' (f := st) (b := b) (q := q) (fun e he => g5 _ ((mem_seen z _ es).mpr ⟨e, he, rfl⟩)) g3 (P st g3 (by omega)) g4 hqb]
    · rw [late_eq hz pos h, List.getElem?_map, g1', Option.map_some]
      rcases g5 with rfl | ⟨b, hb, hqb, g5⟩
      · rfl
      · obtain ⟨e', he', hb'⟩ := (mem_seen z b es).mp hb
        have hbt : b ≤ topB z es := hb' ▸ topB_le he'
        have gp : ∀ e ∈ es, e.2 / z < st ∨ b ≤ e.2 / z := fun e he => g5 _ ((mem_seen z _ es).mpr ⟨e, he, rfl⟩)
        rw [gap_l' P gp g3 hbt g4 hqb, gap_l' P gp g3 hbt (Int.le_refl _) (by omega)]
end
/-! ### promises -/
def sp_check_block_up_to (_ : PySem.W.Frag) : Sp := fun vs H Q _ => ∃ i m : Int, vs = [.int i, .int m] ∧ 0 ≤ i ∧ i ≤ m ∧ Q .non H
def sp_check_entries_possible (_ : PySem.W.Frag) : Sp := fun vs H Q _ => ∃ (z : Int) (c s : Addr) (ns : List Str) (es : List En), vs = [.int z, .ref c, .ref s] ∧ WF z ns es ∧ CrewAt H c ns ∧ EntsAt H s es ∧ obsD z ns es = .none ∧ ∀ H', Same H H' → Q .non H'
def sp_check_possible (K : PySem.W.Frag) : Sp := fun vs H Q _ => ∃ p b z ns es, vs = [.ref p] ∧ LogAt K H p b z ns es ∧ obsD z ns es = .none ∧ ∀ H', Same H H' → Q .non H'
def sp_check_asked (K : PySem.W.Frag) : Sp := fun vs H Q _ => ∃ p b z ns es i, vs = [.ref p, .int i] ∧ LogAt K H p b z ns es ∧ 0 ≤ i ∧ i ≤ topB z es ∧ obsD z ns es = .none ∧ ∀ H', Same H H' → Q .non H'
def sp_earliest (K : PySem.W.Frag) : Sp := fun vs H Q _ => ∃ p b z ns es i, vs = [.ref p, .int i] ∧ LogAt K H p b z ns es ∧ 0 ≤ i ∧ i ≤ topB z es ∧ obsD z ns es = .none ∧ ∀ H', Same H H' → Q (.int (eI z ns es i)) H'
def sp_latest (K : PySem.W.Frag) : Sp := fun vs H Q _ => ∃ p b z ns es i, vs = [.ref p, .int i] ∧ LogAt K H p b z ns es ∧ 0 ≤ i ∧ i ≤ topB z es ∧ obsD z ns es = .none ∧ ∀ H', Same H H' → Q (.int (lI z ns es i)) H'
end NbI

set_option Elab.async false
set_option linter.all false
set_option maxRecDepth 100000
set_option maxHeartbeats 4000000
/-! Logs that are alike: numbers stretched, blocks moved along. -/
namespace NbJ
open PySem PySem.Spec PyProof.Rows L2 Nb NbE NbS NbF NbP NbK NbL NbX NbW NbZ NbM NbQ NbC NbG NbH NbI
/-- entries changed so that all blocks move s along, in the same order of numbers -/
structure Alike (z z' s : Int) (f : En → En) : Prop where
  nm : ∀ e, (f e).1 = e.1
  bk : ∀ e, (f e).2 / z' = e.2 / z + s
  lt : ∀ e e', (f e).2 < (f e').2 ↔ e.2 < e'.2
section
variable {z z' s : Int} {f : En → En} {ns : List Str} {es : List En} {n : Str} {q t : Int}
theorem Alike.hold (A : Alike z z' s f) : ∀ es : List En, hold z' (es.map f) (q + s) = hold z es q
  | [] => rfl
  | e :: es => by
    rw [List.map_cons, hold_cons, hold_cons, A.hold es, A.nm, A.bk]
    by_cases h : e.2 / z = q
    · rw [if_pos h, if_pos (by omega)]
    · rw [if_neg h, if_neg (by omega)]
theorem Alike.plc (A : Alike z z' s f) (n : Str) : ∀ (es : List En) (k : Nat), plc z' n k (es.map f) = (plc z n k es).map fun p => (p.1, p.2 + s)
  | [], _ => rfl
  | e :: es, k => by
    rw [List.map_cons, plc_cons, plc_cons, A.nm, A.bk, A.plc n es (k + 1)]
    by_cases h : e.1 = n
    · rw [if_pos h, if_pos h]
      rfl
    · rw [if_neg h, if_neg h]
theorem low_map (q s : Int) : ∀ (xs : List (Int × Int)) (l : Int), NbW.low (q + s) (xs.map fun p => (p.1, p.2 + s)) l = NbW.low q xs l
  | [], _ => rfl
  | (i, b) :: r, l => by
    rw [List.map_cons, low_cons, low_cons]
    have e : (if b + s < q + s then i + 1 else l) = if b < q then i + 1 else l := by
      by_cases h : b < q
      · rw [if_pos h, if_pos (by omega)]
      · rw [if_neg h, if_neg (by omega)]
    rw [e]
    exact low_map q s r _
theorem high_map (q s : Int) : ∀ (xs : List (Int × Int)) (l : Int), NbW.high (q + s) (xs.map fun p => (p.1, p.2 + s)) l = NbW.high q xs l
  | [], _ => rfl
  | (i, b) :: r, l => by
    rw [List.map_cons, high_cons, high_cons]
    have e : (if b + s < q + s then l else min l i) = if b < q then l else min l i := by
      by_cases h : b < q
      · rw [if_pos h, if_pos (by omega)]
      · rw [if_neg h, if_neg (by omega)]
    rw [e]
    exact high_map q s r _
theorem Alike.winO (A : Alike z z' s f) : winO z' (es.map f) n (q + s) = winO z es n q := by
  unfold NbM.winO
  rw [A.hold, A.plc, low_map, high_map, List.length_map]
theorem Alike.wins (A : Alike z z' s f) : wins z' (es.map f) ns (q + s) = wins z es ns q := by
  unfold NbM.wins
  congr 1
  funext n
  exact A.winO
theorem Alike.sFrom (A : Alike z z' s f) : sFrom z' ns (es.map f) (q + s) t = sFrom z ns es q t := by
  unfold NbM.sFrom
  rw [A.wins, List.length_map]
theorem Alike.sUpTo (A : Alike z z' s f) : sUpTo z' ns (es.map f) (q + s) t = sUpTo z ns es q t := by
  unfold NbM.sUpTo
  rw [A.wins]
theorem Alike.fine (A : Alike z z' s f) : Fine z' (es.map f) ↔ Fine z es := by
  have two : ∀ e e', (f e).2 ≠ (f e').2 ↔ e.2 ≠ e'.2 := fun e e' => by
    have := A.lt e e'
    have := A.lt e' e
    omega
  have sha : ∀ e e', ((f e).2 / z' = (f e').2 / z' → (f e).1 = (f e').1) ↔ (e.2 / z = e'.2 / z → e.1 = e'.1) := fun e e' => by
    rw [A.bk, A.bk, A.nm, A.nm]
    constructor
    · exact fun h g => h (by omega)
    · exact fun h g => h (by omega)
  have bac : ∀ e e', ((f e).1 = (f e').1 → (f e).2 ≤ (f e').2) ↔ (e.1 = e'.1 → e.2 ≤ e'.2) := fun e e' => by
    rw [A.nm, A.nm]
    have := A.lt e' e
    constructor
    · exact fun h g => by have := h g; omega
    · exact fun h g => by have := h g; omega
  constructor
  · rintro ⟨a, b, c⟩
    rw [List.pairwise_map] at a b c
    exact ⟨a.imp fun h => (two _ _).mp h, b.imp fun h => (sha _ _).mp h, c.imp fun h => (bac _ _).mp h⟩
  · rintro ⟨a, b, c⟩
    refine ⟨?_, ?_, ?_⟩ <;> rw [List.pairwise_map]
    · exact a.imp fun h => (two _ _).mpr h
    · exact b.imp fun h => (sha _ _).mpr h
    · exact c.imp fun h => (bac _ _).mpr h
theorem topB_of {m : Int} (hz : 1 ≤ z) (pos : ∀ e ∈ es, 0 ≤ e.2) (h1 : ∃ e ∈ es, e.2 / z = m) (h2 : ∀ e ∈ es, e.2 / z ≤ m) : topB z es = m := by
  obtain ⟨e, he, h⟩ := h1
  have := topB_le (z := z) he
  rcases top_mem hz pos with ⟨rfl, _⟩ | ⟨_, e', he', h'⟩
  · cases he
  · have := h2 e' he'
    omega
theorem Alike.topB (A : Alike z z' s f) (hz : 1 ≤ z) (hz' : 1 ≤ z') (pos : ∀ e ∈ es, 0 ≤ e.2) (pos' : ∀ e ∈ es.map f, 0 ≤ e.2) (hne : es ≠ []) : topB z' (es.map f) = topB z es + s := by
  rcases top_mem hz pos with ⟨h, _⟩ | ⟨_, e, he, h⟩
  · exact absurd h hne
  · refine topB_of hz' pos' ⟨f e, List.mem_map_of_mem he, by rw [A.bk, h]⟩ fun x hx => ?_
    obtain ⟨e', he', rfl⟩ := List.mem_map.mp hx
    rw [A.bk]
    have := topB_le (z := z) he'
    omega
/-- below all blocks that are seen each server has a window from slot 0 -/
theorem inW_low (hns : ns ≠ []) (h : ∀ e ∈ es, q < e.2 / z) : InW z ns es q 0 := by
  cases ns with
  | nil => exact absurd rfl hns
  | cons n r =>
    refine ⟨_, List.mem_filterMap.mpr ⟨n, List.mem_cons_self, win_some fun k e hk hq => ?_⟩, ?_, ?_⟩
    · have := h e (List.mem_of_getElem? hk)
      omega
    · refine (low_le q z n 0 es 0 0 (Int.le_refl _)).mpr ⟨Int.le_refl _, fun i e hi _ hq => ?_⟩
      have := h e (List.mem_of_getElem? hi)
      omega
    · exact (high_ge q z n 0 es 0 _).mpr ⟨by omega, fun i e hi _ _ => by omega⟩
theorem e_low (hns : ns ≠ []) {b : Int} (h : ∀ e ∈ es, b < e.2 / z) (h0 : 0 ≤ q) (h1 : q ≤ b) : eI z ns es q = 0 := by
  have h2 := e_least' (z := z) (ns := ns) (es := es) (g := fun _ => 0) (f := b) (Int.le_refl _) (fun _ _ _ => Int.le_refl _) (fun x _ hx => inW_low hns fun e he => by have := h e he; omega) h0 h1
  have h3 := eI_pos (z := z) (ns := ns) (es := es) (q := q)
  omega
theorem Alike.eI (A : Alike z z' s f) (hns : ns ≠ []) (hs : 0 ≤ s) (pos : ∀ e ∈ es, 0 ≤ e.2 / z) : ∀ q : Nat, eI z' ns (es.map f) (q + s) = eI z ns es q
  | 0 => by
    rw [eI_eq (q := ((0 : Nat) : Int) + s) (by omega), A.sFrom, eI_eq (q := ((0 : Nat) : Int)) (by omega)]
    congr 1
    unfold pI
    rw [if_pos (by omega : ((0 : Nat) : Int) ≤ 0)]
    by_cases h : s = 0
    · rw [if_pos (by omega)]
    · rw [if_neg (by omega)]
      refine e_low hns (b := s - 1) (fun e he => ?_) (by omega) (by omega)
      obtain ⟨e', he', rfl⟩ := List.mem_map.mp he
      have := pos e' he'
      rw [A.bk]
      omega
  | q + 1 => by
    have ih := A.eI hns hs pos q
    rw [eI_eq (q := ((q + 1 : Nat) : Int) + s) (by omega), A.sFrom, eI_eq (q := ((q + 1 : Nat) : Int)) (by omega), show ((q + 1 : Nat) : Int) + s = ((q : Int) + s) + 1 by omega, pI_succ (by omega), ih, show ((q + 1 : Nat) : Int) = (q : Int) + 1 by omega, pI_succ (by omega)]
theorem Alike.eI' (A : Alike z z' s f) (hns : ns ≠ []) (hs : 0 ≤ s) (pos : ∀ e ∈ es, 0 ≤ e.2 / z) (h0 : 0 ≤ q) : NbI.eI z' ns (es.map f) (q + s) = NbI.eI z ns es q := by
  have := A.eI hns hs pos q.toNat
  rwa [show (q.toNat : Int) = q by omega] at this
theorem Alike.lI (A : Alike z z' s f) (ht : NbL.topB z' (es.map f) = NbL.topB z es + s) : ∀ k : Nat, lI z' ns (es.map f) (NbL.topB z es - k + s) = lI z ns es (NbL.topB z es - k)
  | 0 => by
    rw [show NbL.topB z es - ((0 : Nat) : Int) = NbL.topB z es by omega, lI_top, ← ht, lI_top, ht, A.sUpTo, List.length_map]
  | k + 1 => by
    have ih := A.lI ht k
    rw [lI_eq (q := NbL.topB z es - ((k + 1 : Nat) : Int) + s) (by omega), A.sUpTo, lI_eq (q := NbL.topB z es - ((k + 1 : Nat) : Int)) (by omega), show NbL.topB z es - ((k + 1 : Nat) : Int) + s + 1 = NbL.topB z es - k + s by omega, ih, show NbL.topB z es - ((k + 1 : Nat) : Int) + 1 = NbL.topB z es - k by omega]
theorem Alike.lI' (A : Alike z z' s f) (ht : NbL.topB z' (es.map f) = NbL.topB z es + s) (h : q ≤ NbL.topB z es) : NbI.lI z' ns (es.map f) (q + s) = NbI.lI z ns es q := by
  have := A.lI (ns := ns) ht (NbL.topB z es - q).toNat
  rwa [show NbL.topB z es - ((NbL.topB z es - q).toNat : Int) = q by omega] at this
/-- alike logs are possible alike -/
theorem Alike.poss (A : Alike z z' s f) (hns : ns ≠ []) (hs : 0 ≤ s) (hz : 1 ≤ z) (hz' : 1 ≤ z') (pos : ∀ e ∈ es, 0 ≤ e.2) (pos' : ∀ e ∈ es.map f, 0 ≤ e.2) : obsD z' ns (es.map f) = .none ↔ obsD z ns es = .none := by
  by_cases hne : es = []
  · subst hne
    have t0 : ∀ z, NbL.topB z ([] : List En) = -1 := fun _ => rfl
    rw [poss_iff hz' pos', poss_iff hz pos]
    constructor
    · exact fun h => ⟨A.fine.mp h.1, fun q h0 h1 => by rw [t0] at h1; omega⟩
    · exact fun h => ⟨A.fine.mpr h.1, fun q h0 h1 => by have h1' : q ≤ -1 := h1; omega⟩
  · have bp : ∀ e ∈ es, 0 ≤ e.2 / z := fun e he => Int.ediv_nonneg (pos e he) (by omega)
    have ht := A.topB hz hz' pos pos' hne
    rw [poss_iff hz' pos', poss_iff hz pos, A.fine, ht, List.length_map]
    refine and_congr_right fun _ => ⟨fun h q h0 h1 => ?_, fun h q h0 h1 => ?_⟩
    · have := h (q + s) (by omega) (by omega)
      rwa [A.eI' hns hs bp h0] at this
    · by_cases g : s ≤ q
      · have := h (q - s) (by omega) (by omega)
        rw [← A.eI' hns hs bp (by omega), show q - s + s = q by omega] at this
        exact this
      · rw [e_low hns (b := s - 1) (fun e he => by
          obtain ⟨e', he', rfl⟩ := List.mem_map.mp he
          have := bp e' he'
          rw [A.bk]
          omega) h0 (by omega)]
        omega
end
/-! ### numbers and sizes so many times greater -/
def mulE (t : Int) (e : En) : En := (e.1, e.2 * t)
theorem alike_mul {z t : Int} (hz : 1 ≤ z) (ht : 1 ≤ t) : Alike z (z * t) 0 (mulE t) where
  nm := fun _ => rfl
  bk := fun e => by
    show e.2 * t / (z * t) = _
    rw [Int.mul_ediv_mul_of_pos_left _ _ (by omega), Int.add_zero]
  lt := fun e e' => Int.mul_lt_mul_right (by omega)
def addE (d : Int) (e : En) : En := (e.1, e.2 + d)
theorem alike_add {z s : Int} (hz : 1 ≤ z) : Alike z z s (addE (s * z)) where
  nm := fun _ => rfl
  bk := fun e => by
    show (e.2 + s * z) / z = _
    rw [Int.add_mul_ediv_right _ _ (by omega)]
  lt := fun e e' => by
    show e.2 + s * z < e'.2 + s * z ↔ _
    omega
/-- .. what is right of the one is right of the other -/
theorem right_map {z z' : Int} {f : En → En} {ns : List Str} {es : List En} (A : Alike z z' 0 f) {th : Thing} (h : Right z ns es th) : Right z' ns (es.map f) th := by
  cases th with
  | two w i j =>
    obtain ⟨h1, e, g, h2, h3, h4⟩ := h
    refine ⟨h1, f e, f g, by rw [List.getElem?_map, h2]; rfl, by rw [List.getElem?_map, h3]; rfl, ?_⟩
    rcases h4 with ⟨w1, h5⟩ | ⟨w1, h5, h6⟩ | ⟨w1, h5, h6⟩
    · refine .inl ⟨w1, ?_⟩
      have := A.lt e g
      have := A.lt g e
      omega
    · exact .inr (.inl ⟨w1, by rw [A.nm, A.nm]; exact h5, by rw [A.bk, A.bk, h6]⟩)
    · exact .inr (.inr ⟨w1, by rw [A.nm, A.nm]; exact h5, (A.lt _ _).mpr h6⟩)
  | pushed st =>
    obtain ⟨h1, h2, h3⟩ := h
    refine ⟨A.fine.mpr h1, ?_, h3⟩
    have key : ∀ (st : List (Int × Int)) (low s : Int), SOk z ns es low s st → SOk z' ns (es.map f) low s st := by
      intro st
      induction st with
      | nil =>
        intro low s h
        show s = ((es.map f).length : Int) + 1
        rw [List.length_map]
        exact h
      | cons p r ih =>
        rintro low s ⟨k1, ⟨e, ke, k2⟩, k3, k4, k5, k6⟩
        refine ⟨k1, ⟨f e, List.mem_map_of_mem ke, by rw [A.bk]; omega⟩, k3, by rw [List.length_map]; exact k4, ?_, ih _ _ k6⟩
        have := A.sFrom (ns := ns) (es := es) (q := p.1) (t := s)
        rw [Int.add_zero] at this
        rw [this, k5]
    exact key st _ _ h2
/-! ### what the law tells of a log -/
def possB (z : Int) (ns : List Str) (es : List En) : Bool := match obsD z ns es with
  | .none => true
  | _ => false
theorem possB_iff {z : Int} {ns : List Str} {es : List En} : possB z ns es = true ↔ obsD z ns es = .none := by
  unfold possB
  cases obsD z ns es <;> simp
def rowD (z : Int) (ns : List Str) (es : List En) (q : Int) : List PyData :=
  PyData.list ((ns.take 3).map fun n => duD (winO z es n q)) :: if possB z ns es = true ∧ 0 ≤ q ∧ q ≤ topB z es then [.tuple [.int (eI z ns es q), .int (lI z ns es q)]] else []
def rowsD (z : Int) (ns : List Str) (es : List En) (sh : Int) (qs : List Int) : List PyData := qs.flatMap fun q => rowD z ns es (q + sh)
def toldD (z : Int) (ns : List Str) (es : List En) (sh : Int) (qs : List Int) : PyData := .list [.bool (possB z ns es), .list (rowsD z ns es sh qs)]
theorem rowsD_snoc (z : Int) (ns : List Str) (es : List En) (sh : Int) (qs : List Int) (q : Int) : rowsD z ns es sh (qs ++ [q]) = rowsD z ns es sh qs ++ rowD z ns es (q + sh) := by
  unfold rowsD
  rw [List.flatMap_append]
  simp
/-- data that holds no list of whole numbers: it stays when the law draws -/
def okL : List PyData → Prop
  | .int _ :: _ => False
  | _ => True
mutual
def okD : PyData → Prop
  | .list ds => okL ds ∧ okDs ds
  | .tuple ds => okDs ds
  | _ => True
def okDs : List PyData → Prop
  | [] => True
  | d :: ds => okD d ∧ okDs ds
end
theorem okL_ne {K : PySem.W.Frag} {H : Hp} {fa a : Addr} {ds : List PyData} {xs : List V} (f : Feed H fa) (h : H a = some (.lst xs)) (hd : DpAll K H xs ds) (o : okL ds) : a ≠ fa := by
  obtain ⟨x, y, z, e⟩ := f
  rintro rfl
  rw [h] at e
  cases e
  cases hd with
  | cons a b =>
    cases a
    exact o
theorem sqL_stp {K : PySem.W.Frag} {H H' : Hp} {fa a : Addr} {ds : List PyData} {xs : List V} (f : Feed H fa) (e : Stp fa H H') (hd : DpAll K H xs ds) (o : okL ds) (h : SqL K H a xs) : SqL K H' a xs := by
  rcases h with (h | ⟨u, h⟩) | h
  · exact .inl (.inl (e.kp _ _ (okL_ne f h hd o) h))
  · refine .inl (.inr ⟨u, e.kp _ _ ?_ h⟩)
    obtain ⟨x, y, z, g⟩ := f
    rintro rfl
    rw [h] at g
    cases g
  · exact .inr h
theorem sqT_stp {K : PySem.W.Frag} {H H' : Hp} {fa a : Addr} {xs : List V} (f : Feed H fa) (e : Stp fa H H') (h : SqT K H a xs) : SqT K H' a xs := by
  obtain ⟨x, y, z, g⟩ := f
  rcases h with (h | ⟨u, h⟩) | h
  · exact .inl (.inl (e.kp _ _ (fun k => by rw [k, g] at h; cases h) h))
  · exact .inl (.inr ⟨u, e.kp _ _ (fun k => by rw [k, g] at h; cases h) h⟩)
  · exact .inr h
mutual
theorem dp_stp {K : PySem.W.Frag} {H H' : Hp} {fa : Addr} (f : Feed H fa) (e : Stp fa H H') : ∀ (d : PyData) (v : V), okD d → Dp K H v d → Dp K H' v d
  | .none, _, _, h => by cases h; exact .non
  | .bool b, _, _, h => by cases h; exact .bl _
  | .int i, _, _, h => by cases h; exact .int _
  | .str x, _, _, h => by cases h; exact .str _
  | .list ds, _, o, h => by
    unfold okD at o
    cases h with
    | lst a b => exact .lst (sqL_stp f e b o.1 a) (dps_stp f e ds _ o.2 b)
  | .tuple ds, _, o, h => by
    unfold okD at o
    cases h with
    | tup a b => exact .tup (sqT_stp f e a) (dps_stp f e ds _ o b)
  | .dict _, _, _, h => by cases h
theorem dps_stp {K : PySem.W.Frag} {H H' : Hp} {fa : Addr} (f : Feed H fa) (e : Stp fa H H') : ∀ (ds : List PyData) (vs : List V), okDs ds → DpAll K H vs ds → DpAll K H' vs ds
  | [], _, _, h => by cases h; exact .nil
  | d :: ds, _, o, h => by
    unfold okDs at o
    cases h with
    | cons a b => exact .cons (dp_stp f e d _ o.1 a) (dps_stp f e ds _ o.2 b)
end
theorem okDs_of : ∀ {ds : List PyData}, (∀ d ∈ ds, okD d) → okDs ds
  | [], _ => by unfold okDs; trivial
  | d :: ds, h => by
    unfold okDs
    exact ⟨h d List.mem_cons_self, okDs_of fun x hx => h x (List.mem_cons_of_mem _ hx)⟩
theorem okD_du (w : Option (Int × Int)) : okD (duD w) := by
  cases w with
  | none => unfold duD okD; trivial
  | some p =>
    unfold duD okD okDs okDs okDs okD
    exact ⟨trivial, trivial, trivial⟩
theorem okL_du : ∀ ws : List (Option (Int × Int)), okL (ws.map duD)
  | [] => trivial
  | none :: _ => trivial
  | some _ :: _ => trivial
theorem okD_row {z : Int} {ns : List Str} {es : List En} {q : Int} : ∀ d ∈ rowD z ns es q, okD d := fun d hd => by
  unfold rowD at hd
  rcases List.mem_cons.mp hd with rfl | hd
  · unfold okD
    have e : ((ns.take 3).map fun n => duD (winO z es n q)) = ((ns.take 3).map fun n => winO z es n q).map duD := by rw [List.map_map]; rfl
    rw [e]
    refine ⟨okL_du _, okDs_of fun x hx => ?_⟩
    obtain ⟨w, _, rfl⟩ := List.mem_map.mp hx
    exact okD_du w
  · split at hd
    · rw [List.mem_singleton.mp hd]
      unfold okD okDs okDs okDs okD
      exact ⟨trivial, trivial, trivial⟩
    · cases hd
theorem okD_told (z : Int) (ns : List Str) (es : List En) (sh : Int) (qs : List Int) : okD (toldD z ns es sh qs) := by
  unfold toldD okD
  refine ⟨trivial, okDs_of fun d hd => ?_⟩
  rcases List.mem_cons.mp hd with rfl | hd
  · unfold okD; trivial
  · rw [List.mem_singleton.mp hd]
    unfold okD
    refine ⟨?_, okDs_of fun x hx => ?_⟩
    · cases qs with
      | nil => exact trivial
      | cons q r => exact trivial
    · obtain ⟨q, _, h⟩ := List.mem_flatMap.mp hx
      exact okD_row _ h
/-! .. and can be compared -/
theorem lay_all {ds : List PyData} (h : ∀ d ∈ ds, PyData.canLay0 d = true) : PyData.canLayAll0 ds = true := by
  induction ds with
  | nil => rfl
  | cons d ds ih =>
    show (PyData.canLay0 d && PyData.canLayAll0 ds) = true
    rw [h d List.mem_cons_self, ih fun x hx => h x (List.mem_cons_of_mem _ hx)]
    rfl
theorem dep_all {m : Nat} {ds : List PyData} (h : ∀ d ∈ ds, PyData.depth d ≤ m) : PyData.depthAll ds ≤ m := by
  induction ds with
  | nil => unfold PyData.depthAll; omega
  | cons d ds ih =>
    unfold PyData.depthAll
    exact Nat.max_le.mpr ⟨h d List.mem_cons_self, ih fun x hx => h x (List.mem_cons_of_mem _ hx)⟩
theorem lay_du (w : Option (Int × Int)) : PyData.canLay0 (duD w) = true ∧ PyData.depth (duD w) ≤ 1 := by
  cases w with
  | none => exact ⟨rfl, by decide⟩
  | some p => exact ⟨rfl, by unfold duD PyData.depth PyData.depthAll PyData.depthAll PyData.depthAll PyData.depth; decide⟩
theorem lay_row {z : Int} {ns : List Str} {es : List En} {q : Int} : ∀ d ∈ rowD z ns es q, PyData.canLay0 d = true ∧ PyData.depth d ≤ 2 := fun d hd => by
  unfold rowD at hd
  rcases List.mem_cons.mp hd with rfl | hd
  · refine ⟨lay_all fun x hx => ?_, ?_⟩
    · obtain ⟨n, _, rfl⟩ := List.mem_map.mp hx
      exact (lay_du _).1
    · unfold PyData.depth
      have : PyData.depthAll ((ns.take 3).map fun n => duD (winO z es n q)) ≤ 1 := dep_all fun x hx => by
        obtain ⟨n, _, rfl⟩ := List.mem_map.mp hx
        exact (lay_du _).2
      omega
  · split at hd
    · rw [List.mem_singleton.mp hd]
      exact ⟨rfl, by unfold PyData.depth PyData.depthAll PyData.depthAll PyData.depthAll PyData.depth; decide⟩
    · cases hd
theorem shaped_told (z : Int) (ns : List Str) (es : List En) (sh : Int) (qs : List Int) : SeqAt.shaped (toldD z ns es sh qs) = true := by
  have h : ∀ d ∈ rowsD z ns es sh qs, PyData.canLay0 d = true ∧ PyData.depth d ≤ 2 := fun d hd => by
    obtain ⟨q, _, h⟩ := List.mem_flatMap.mp hd
    exact lay_row _ h
  unfold SeqAt.shaped
  rw [Bool.and_eq_true]
  refine ⟨lay_all (ds := [.bool (possB z ns es), .list (rowsD z ns es sh qs)]) fun d hd => ?_, decide_eq_true ?_⟩
  · rcases List.mem_cons.mp hd with rfl | hd
    · rfl
    · rw [List.mem_singleton.mp hd]
      exact lay_all fun d hd => (h d hd).1
  · have h1 : PyData.depthAll (rowsD z ns es sh qs) ≤ 2 := dep_all fun d hd => (h d hd).2
    have h2 : PyData.depthAll [.bool (possB z ns es), .list (rowsD z ns es sh qs)] ≤ 3 := dep_all fun d hd => by
      rcases List.mem_cons.mp hd with rfl | hd
      · unfold PyData.depth; omega
      · rw [List.mem_singleton.mp hd]
        unfold PyData.depth
        omega
    unfold toldD PyData.depth
    omega
theorem lay_shaped {d : PyData} (h : SeqAt.shaped d = true) : PyData.eqv d d = true := by
  unfold SeqAt.shaped at h
  rw [Bool.and_eq_true] at h
  exact SeqAt.eqv_refl d h.1
/-- the same is told of alike logs -/
theorem Alike.told {z z' s : Int} {f : En → En} {ns : List Str} {es : List En} {qs : List Int} (A : Alike z z' s f) (hns : ns ≠ []) (hs : 0 ≤ s) (hz : 1 ≤ z) (hz' : 1 ≤ z') (pos : ∀ e ∈ es, 0 ≤ e.2) (pos' : ∀ e ∈ es.map f, 0 ≤ e.2) (hq : ∀ q ∈ qs, 0 ≤ q)
    (h : es ≠ [] ∨ s = 0) : toldD z' ns (es.map f) s qs = toldD z ns es 0 qs := by
  have hp : possB z' ns (es.map f) = possB z ns es := by
    rw [Bool.eq_iff_iff, possB_iff, possB_iff]
    exact A.poss hns hs hz hz' pos pos'
  have bp : ∀ e ∈ es, 0 ≤ e.2 / z := fun e he => Int.ediv_nonneg (pos e he) (by omega)
  unfold toldD rowsD
  rw [hp]
  congr 3
  refine congrArg _ ?_
  have hr : ∀ q ∈ qs, rowD z' ns (es.map f) (q + s) = rowD z ns es (q + 0) := fun q hq' => by
    have q0 := hq q hq'
    unfold rowD
    rw [hp, Int.add_zero]
    have e1 : ((ns.take 3).map fun n => duD (NbM.winO z' (es.map f) n (q + s))) = (ns.take 3).map fun n => duD (NbM.winO z es n q) := by
      congr 1
      funext n
      rw [A.winO]
    rw [e1]
    congr 1
    by_cases hne : es = []
    · subst hne
      have t0 : ∀ z, NbL.topB z ([] : List En) = -1 := fun _ => rfl
      rw [if_neg (by rintro ⟨_, _, h⟩; have h' : q + s ≤ -1 := h; omega), if_neg (by rintro ⟨_, _, h⟩; rw [t0] at h; omega)]
    · have ht := A.topB hz hz' pos pos' hne
      rw [ht, A.eI' hns hs bp q0]
      by_cases g : possB z ns es = true ∧ 0 ≤ q ∧ q ≤ NbL.topB z es
      · rw [if_pos g, if_pos ⟨g.1, by omega, by omega⟩, A.lI' ht g.2.2]
      · rw [if_neg g, if_neg fun k => g ⟨k.1, q0, by omega⟩]
  rw [List.flatMap_def, List.flatMap_def, List.map_congr_left hr]
/-! ### data that does not depend on the list that is filled with it -/
theorem upd_upd {H : Hp} {p : Addr} {o u : HO} : upd (upd H p o) p u = upd H p u := by
  funext b
  by_cases h : b = p
  · subst h
    rw [upd_same, upd_same]
  · rw [upd_ne h, upd_ne h, upd_ne h]
theorem upd_id {H : Hp} {p : Addr} {o : HO} (h : H p = some o) : upd H p o = H := by
  funext b
  by_cases g : b = p
  · subst g
    rw [upd_same, h]
  · rw [upd_ne g]
theorem same_upd {H H' : Hp} {p : Addr} {o : HO} (e : Same H H') : Same (upd H p o) (upd H' p o) := fun b u h => by
  by_cases g : b = p
  · subst g
    rw [upd_same] at h ⊢
    exact h
  · rw [upd_ne g] at h ⊢
    exact e _ _ h
def DpX (K : PySem.W.Frag) (H : Hp) (p : Addr) (v : V) (d : PyData) : Prop := ∀ o, Dp K (upd H p o) v d
def DpsX (K : PySem.W.Frag) (H : Hp) (p : Addr) (vs : List V) (ds : List PyData) : Prop := ∀ o, DpAll K (upd H p o) vs ds
section
variable {K : PySem.W.Frag} {H H' : Hp} {p : Addr} {v : V} {vs : List V} {d : PyData} {ds : List PyData} {o : HO}
theorem DpsX.nil : DpsX K H p [] [] := fun _ => .nil
theorem DpX.same (h : DpX K H p v d) (e : Same H H') : DpX K H' p v d := fun o => dp_same (same_upd e) _ _ (h o)
theorem DpsX.same (h : DpsX K H p vs ds) (e : Same H H') : DpsX K H' p vs ds := fun o => dpAll_same (same_upd e) _ _ (h o)
theorem DpX.put (h : DpX K H p v d) : DpX K (upd H p o) p v d := fun u => by rw [upd_upd]; exact h u
theorem DpsX.put (h : DpsX K H p vs ds) : DpsX K (upd H p o) p vs ds := fun u => by rw [upd_upd]; exact h u
theorem DpX.dp (h : DpX K H p v d) (g : H p = some o) : Dp K H v d := by
  have := h o
  rwa [upd_id g] at this
theorem DpsX.dps (h : DpsX K H p vs ds) (g : H p = some o) : DpAll K H vs ds := by
  have := h o
  rwa [upd_id g] at this
theorem DpsX.snoc (h : DpsX K H p vs ds) (g : DpX K H p v d) : DpsX K H p (vs ++ [v]) (ds ++ [d]) := fun o => dps_snoc (g o) (h o)
end
/-- an alike log shows what was told of a log -/
theorem shows_alike {K : PySem.W.Frag} {H0 H : Hp} {lo : Addr} {b : Bool} {z z' : Int} {ns ns' : List Str} {es es' : List En} {v : V} {Q : VK} {E : XK} (h : LogAt K H lo b z' ns' es') (hv : Told2 z ns es H0 H v) (hr : ∀ th, Right z ns es th → Right z' ns' es' th)
    (q : ∀ H', Same H H' → Q (.bl (!possB z ns es)) H') : sp_shows_obstacle K [.ref lo, v] H Q E := by
  rcases hv with ⟨rfl, ho⟩ | ⟨t, th, rfl, ht, r, hd⟩
  · have hp := possB_iff.mpr ho
    rw [hp] at q
    exact ⟨lo, b, z', ns', es', _, rfl, h, .inl ⟨rfl, q⟩⟩
  · have hp : possB z ns es = false := Bool.eq_false_iff.mpr fun g => by
      have := possB_iff.mp g
      rw [this] at hd
      cases th <;> cases hd
    rw [hp] at q
    exact ⟨lo, b, z', ns', es', _, rfl, h, .inr ⟨t, th, rfl, ht.at, hr th r, q⟩⟩
theorem not_self (b : Bool) : decide (V.bl (!b) = V.bl b) = false := by cases b <;> simp
theorem wf_map {z z' s : Int} {ns : List Str} {es : List En} {f : En → En} (hw : WF z ns es) (hz : SizeOk z') (A : Alike z z' s f) (h : ∀ e ∈ es, 0 ≤ (f e).2) : WF z' ns (es.map f) := ⟨hz, hw.cr, ⟨by rw [List.length_map]; exact hw.en.few, fun x hx => by
  obtain ⟨e, he, rfl⟩ := List.mem_map.mp hx
  have k := hw.en.ok e he
  unfold enOk at k ⊢
  simp only [Bool.and_eq_true, decide_eq_true_eq] at k ⊢
  exact ⟨by rw [A.nm]; exact k.1, h e he⟩⟩⟩
theorem crew_ne {ns : List Str} (h : Crew ns) : ns ≠ [] := by
  rintro rfl
  have := h.few.1
  simp at this
end NbJ

set_option Elab.async false
set_option linter.all false
set_option maxRecDepth 100000
set_option maxHeartbeats 4000000
/-! Slots in windows by entries; logs that grow, are renamed, have more servers. -/
namespace NbO
open PySem PySem.Spec PyProof.Rows L2 Nb NbE NbS NbF NbP NbK NbL NbX NbW NbZ NbM NbQ NbC NbG NbH NbI NbJ
/-- a slot in the window of a server -/
structure SlW (z : Int) (es : List En) (s : Str) (q k : Int) : Prop where
  k0 : 0 ≤ k
  k1 : k ≤ (es.length : Int)
  own : ∀ (i : Nat) e, es[i]? = some e → e.2 / z = q → e.1 = s
  lo : ∀ (i : Nat) e, es[i]? = some e → e.1 = s → e.2 / z < q → (i : Int) + 1 ≤ k
  hi : ∀ (i : Nat) e, es[i]? = some e → e.1 = s → ¬ e.2 / z < q → k ≤ (i : Int)
section
variable {z : Int} {ns : List Str} {es : List En} {s : Str} {q k : Int}
theorem winO_hold {w : Int × Int} (h : winO z es s q = some w) : (∀ (i : Nat) e, es[i]? = some e → e.2 / z = q → e.1 = s) ∧ w = (NbW.low q (plc z s 0 es) 0, high q (plc z s 0 es) (es.length : Int)) := by
  unfold NbM.winO at h
  split at h
  · cases h
  · rename_i g
    cases h
    refine ⟨fun i e hi hq => ?_, rfl⟩
    rw [Bool.not_eq_true, List.any_eq_false] at g
    have hm : e.1 ∈ hold z es q := by
      unfold hold
      exact List.mem_map.mpr ⟨e, List.mem_filter.mpr ⟨List.mem_of_getElem? hi, decide_eq_true hq⟩, rfl⟩
    simpa using g _ hm
theorem slW_iff : (∃ w, winO z es s q = some w ∧ w.1 ≤ k ∧ k ≤ w.2) ↔ SlW z es s q k := by
  have hl := low_le q z s k es 0 0 (Int.le_refl _)
  have hh := high_ge q z s k es 0 (es.length : Int)
  constructor
  · rintro ⟨w, h, h1, h2⟩
    obtain ⟨g, rfl⟩ := winO_hold h
    obtain ⟨a1, a2⟩ := hl.mp h1
    obtain ⟨b1, b2⟩ := hh.mp h2
    exact ⟨a1, b1, g, fun i e hi hn hq => by have := a2 i e hi hn hq; omega, fun i e hi hn hq => by have := b2 i e hi hn hq; omega⟩
  · rintro ⟨k0, k1, own, lo, hi⟩
    exact ⟨_, win_some own, hl.mpr ⟨k0, fun i e h hn hq => by have := lo i e h hn hq; omega⟩, hh.mpr ⟨k1, fun i e h hn hq => by have := hi i e h hn hq; omega⟩⟩
theorem inW_iff : InW z ns es q k ↔ ∃ s ∈ ns, SlW z es s q k := by
  constructor
  · rintro ⟨w, hw, h1, h2⟩
    obtain ⟨s, hs, h⟩ := List.mem_filterMap.mp hw
    exact ⟨s, hs, slW_iff.mp ⟨w, h, h1, h2⟩⟩
  · rintro ⟨s, hs, h⟩
    obtain ⟨w, hw, h1, h2⟩ := slW_iff.mpr h
    exact ⟨w, List.mem_filterMap.mpr ⟨s, hs, hw⟩, h1, h2⟩
end
/-! ### e and l depend on the slots alone -/
section
variable {z z' : Int} {ns ns' : List Str} {es es' : List En} {q q' s f : Int}
theorem sFrom_congr (hl : es.length = es'.length) (h : ∀ k, InW z ns es q k ↔ InW z' ns' es' q' k) : sFrom z ns es q s = sFrom z' ns' es' q' s := by
  have one : ∀ {z z' : Int} {ns ns' : List Str} {es es' : List En} {q q' : Int}, es.length = es'.length → (∀ k, InW z ns es q k ↔ InW z' ns' es' q' k) → sFrom z' ns' es' q' s ≤ sFrom z ns es q s := by
    intro z z' ns ns' es es' q q' hl h
    by_cases g : sFrom z ns es q s ≤ (es.length : Int)
    · obtain ⟨h1, h2⟩ := sFrom_in g
      exact sFrom_min h1 ((h _).mp h2)
    · have := sFrom_le (z := z') (ns := ns') (es := es') (q := q') (s := s)
      omega
  exact Int.le_antisymm (one hl.symm fun k => (h k).symm) (one hl h)
theorem sUpTo_congr (h : ∀ k, InW z ns es q k ↔ InW z' ns' es' q' k) : sUpTo z ns es q s = sUpTo z' ns' es' q' s := by
  have lo : ∀ {z : Int} {ns : List Str} {es : List En} {q : Int}, -1 ≤ sUpTo z ns es q s := fun {z ns es q} => (slotU_cand s (wins z es ns q) (-1)).1
  have one : ∀ {z z' : Int} {ns ns' : List Str} {es es' : List En} {q q' : Int}, (∀ k, InW z ns es q k ↔ InW z' ns' es' q' k) → sUpTo z ns es q s ≤ sUpTo z' ns' es' q' s := by
    intro z z' ns ns' es es' q q' h
    by_cases g : 0 ≤ sUpTo z ns es q s
    · obtain ⟨h1, h2⟩ := sUpTo_in g
      exact sUpTo_max h1 ((h _).mp h2)
    · have := lo (z := z') (ns := ns') (es := es') (q := q')
      omega
  exact Int.le_antisymm (one h) (one fun k => (h k).symm)
theorem eI_congr (hl : es.length = es'.length) (h : ∀ q, 0 ≤ q → ∀ k, InW z ns es q k ↔ InW z' ns' es' q k) : ∀ q : Nat, eB z ns es q = eB z' ns' es' q
  | 0 => sFrom_congr hl (h 0 (Int.le_refl _))
  | q + 1 => by
    show sFrom z ns es ((q + 1 : Nat) : Int) (eB z ns es q) = sFrom z' ns' es' ((q + 1 : Nat) : Int) (eB z' ns' es' q)
    rw [eI_congr hl h q]
    exact sFrom_congr hl (h _ (by omega))
theorem lI_congr (hl : es.length = es'.length) (ht : topB z es = topB z' es') (h : ∀ q, ∀ k, InW z ns es q k ↔ InW z' ns' es' q k) (q : Int) : lI z ns es q = lI z' ns' es' q := by
  unfold lI
  rw [ht]
  generalize (topB z' es' - q).toNat = n
  induction n with
  | zero =>
    show sUpTo z ns es (topB z' es') (es.length : Int) = sUpTo z' ns' es' (topB z' es') (es'.length : Int)
    rw [hl]
    exact sUpTo_congr (h _)
  | succ n ih =>
    show sUpTo z ns es (topB z' es' - ((n + 1 : Nat) : Int)) (lD z ns es (topB z' es') n) = sUpTo z' ns' es' (topB z' es' - ((n + 1 : Nat) : Int)) (lD z' ns' es' (topB z' es') n)
    rw [ih]
    exact sUpTo_congr (h _)
end
/-! ### one entry more -/
section
variable {z : Int} {ns : List Str} {es : List En} {e : En} {s : Str} {q k : Int}
theorem get_front {i : Nat} {x : En} (h : es[i]? = some x) : (es ++ [e])[i]? = some x := by
  rw [List.getElem?_append_left (List.getElem?_eq_some_iff.mp h).1]
  exact h
theorem SlW.front (h : SlW z (es ++ [e]) s q k) : SlW z es s q (min k (es.length : Int)) := by
  have h0 := h.k0
  refine ⟨by omega, by omega, fun i x hi => h.own i x (get_front hi), fun i x hi hn hq => ?_, fun i x hi hn hq => ?_⟩
  · have := h.lo i x (get_front hi) hn hq
    have := (List.getElem?_eq_some_iff.mp hi).1
    omega
  · have := h.hi i x (get_front hi) hn hq
    omega
theorem inW_front (h : InW z ns (es ++ [e]) q k) : InW z ns es q (min k (es.length : Int)) := by
  obtain ⟨s, hs, h⟩ := inW_iff.mp h
  exact inW_iff.mpr ⟨s, hs, h.front⟩
theorem topB_snoc (hz : 1 ≤ z) (pos : ∀ x ∈ es ++ [e], 0 ≤ x.2) : topB z es ≤ topB z (es ++ [e]) ∧ e.2 / z ≤ topB z (es ++ [e]) := by
  have pos' : ∀ x ∈ es, 0 ≤ x.2 := fun x hx => pos x (List.mem_append_left _ hx)
  refine ⟨?_, topB_le (List.mem_append_right _ (List.mem_singleton.mpr rfl))⟩
  rcases top_mem hz pos' with ⟨rfl, h⟩ | ⟨_, x, hx, h⟩
  · have h1 := topB_le (z := z) (es := [] ++ [e]) (e := e) (by simp)
    have h2 := Int.ediv_nonneg (pos e (by simp)) (show 0 ≤ z by omega)
    omega
  · rw [← h]
    exact topB_le (List.mem_append_left _ hx)
/-- a log that is possible was so before its last entry -/
theorem poss_front (hz : 1 ≤ z) (pos : ∀ x ∈ es ++ [e], 0 ≤ x.2) (h : obsD z ns (es ++ [e]) = .none) : obsD z ns es = .none ∧ (∀ q, 0 ≤ q → q ≤ topB z es → eI z ns es q ≤ eI z ns (es ++ [e]) q ∧ min (lI z ns (es ++ [e]) q) (es.length : Int) ≤ lI z ns es q) := by
  have pos' : ∀ x ∈ es, 0 ≤ x.2 := fun x hx => pos x (List.mem_append_left _ hx)
  obtain ⟨F, P⟩ := (poss_iff hz pos).mp h
  have ht := (topB_snoc hz pos).1
  have up : ∀ q, 0 ≤ q → q < topB z es → min (eI z ns (es ++ [e]) q) (es.length : Int) ≤ min (eI z ns (es ++ [e]) (q + 1)) (es.length : Int) := fun q h0 h1 => by
    have := eI_up (z := z) (ns := ns) (es := es ++ [e]) h0
    omega
  have hE : ∀ q, 0 ≤ q → q ≤ topB z es → eI z ns es q ≤ min (eI z ns (es ++ [e]) q) (es.length : Int) := fun q h0 h1 =>
    e_least' (g := fun q => min (eI z ns (es ++ [e]) q) (es.length : Int)) (f := topB z es) (by
      have := eI_pos (z := z) (ns := ns) (es := es ++ [e]) (q := 0)
      show 0 ≤ min _ _
      omega) up (fun q h0 h1 => inW_front (eI_in P h0 (by omega))) h0 h1
  have P' : ∀ q, 0 ≤ q → q ≤ topB z es → eI z ns es q ≤ (es.length : Int) := fun q h0 h1 => by have := hE q h0 h1; omega
  refine ⟨(poss_iff hz pos').mpr ⟨fine_front F, P'⟩, fun q h0 h1 => ⟨by have := hE q h0 h1; omega, ?_⟩⟩
  exact l_most' (g := fun q => min (lI z ns (es ++ [e]) q) (es.length : Int)) (fun q h0 h1 => by
    have := lI_up P h0 (show q < topB z (es ++ [e]) by omega)
    show min _ _ ≤ min _ _
    omega) (fun q h0 h1 => inW_front (lI_in P h0 (by omega))) h0 h1
theorem right_front {th : Thing} (h : Right z ns es th) (hp : ∀ st, th ≠ .pushed st) : Right z ns (es ++ [e]) th := by
  cases th with
  | two w i j =>
    obtain ⟨h1, x, y, h2, h3, h4⟩ := h
    exact ⟨h1, x, y, get_front h2, get_front h3, h4⟩
  | pushed st => exact absurd rfl (hp st)
/-- an entry of a new far block keeps a log possible -/
theorem poss_far (hz : 1 ≤ z) (pos : ∀ x ∈ es ++ [e], 0 ≤ x.2) (hs : e.1 ∈ ns) (hf : topB z es < e.2 / z) (h : obsD z ns es = .none) : obsD z ns (es ++ [e]) = .none := by
  have pos' : ∀ x ∈ es, 0 ≤ x.2 := fun x hx => pos x (List.mem_append_left _ hx)
  obtain ⟨F, P⟩ := (poss_iff hz pos').mp h
  have big : ∀ x ∈ es, x.2 / z < e.2 / z := fun x hx => by
    have := topB_le (z := z) hx
    omega
  have less : ∀ x ∈ es, x.2 < e.2 := fun x hx => by
    by_cases g : e.2 ≤ x.2
    · have := Int.ediv_le_ediv (show 0 < z by omega) g
      have := big x hx
      omega
    · omega
  refine (poss_iff hz pos).mpr ⟨fine_snoc.mpr ⟨F, fun x hx => ⟨by have := less x hx; omega, fun g => by have := big x hx; omega, fun _ => by have := less x hx; omega⟩⟩, fun q h0 h1 => ?_⟩
  have top : topB z (es ++ [e]) = e.2 / z := topB_of hz pos ⟨e, by simp, rfl⟩ fun x hx => by
    rcases List.mem_append.mp hx with g | g
    · have := big x g
      omega
    · rw [List.mem_singleton.mp g]
      exact Int.le_refl _
  have hP : ∀ q, 0 ≤ q → q ≤ topB z es → InW z ns (es ++ [e]) q (eI z ns es q) := fun q h0 h1 => by
    obtain ⟨s, hs', w⟩ := inW_iff.mp (eI_in P h0 h1)
    refine inW_iff.mpr ⟨s, hs', w.k0, by have := w.k1; rw [List.length_append, List.length_singleton]; omega, fun i x hi hq => ?_, fun i x hi hn hq => ?_, fun i x hi hn hq => ?_⟩
    · rcases snoc_get hi with g | ⟨_, rfl⟩
      · exact w.own i x g hq
      · omega
    · rcases snoc_get hi with g | ⟨_, rfl⟩
      · exact w.lo i x g hn hq
      · omega
    · rcases snoc_get hi with g | ⟨rfl, rfl⟩
      · exact w.hi i x g hn hq
      · exact w.k1
  have hN : ∀ q, topB z es < q → q ≤ e.2 / z → InW z ns (es ++ [e]) q (es.length : Int) := fun q h0 h1 => by
    refine inW_iff.mpr ⟨e.1, hs, by omega, by rw [List.length_append, List.length_singleton]; omega, fun i x hi hq => ?_, fun i x hi hn hq => ?_, fun i x hi hn hq => ?_⟩
    · rcases snoc_get hi with g | ⟨_, rfl⟩
      · have := topB_le (z := z) (List.mem_of_getElem? g)
        omega
      · rfl
    · rcases snoc_get hi with g | ⟨_, rfl⟩
      · have := (List.getElem?_eq_some_iff.mp g).1
        omega
      · omega
    · rcases snoc_get hi with g | ⟨rfl, rfl⟩
      · have := topB_le (z := z) (List.mem_of_getElem? g)
        omega
      · exact Int.le_refl _
  have hE := e_least' (z := z) (ns := ns) (es := es ++ [e]) (g := fun q => if q ≤ topB z es then eI z ns es q else (es.length : Int)) (f := e.2 / z) (by
    show 0 ≤ (if (0 : Int) ≤ topB z es then _ else _)
    split
    · exact eI_pos
    · omega) (fun q h0 h1 => by
    show (if q ≤ topB z es then eI z ns es q else (es.length : Int)) ≤ (if q + 1 ≤ topB z es then eI z ns es (q + 1) else (es.length : Int))
    by_cases g : q + 1 ≤ topB z es
    · rw [if_pos g, if_pos (by omega)]
      exact eI_up h0
    · rw [if_neg g]
      by_cases g2 : q ≤ topB z es
      · rw [if_pos g2]
        exact P q h0 g2
      · rw [if_neg g2]
        exact Int.le_refl _) (fun q h0 h1 => by
    show InW z ns (es ++ [e]) q (if q ≤ topB z es then eI z ns es q else (es.length : Int))
    by_cases g : q ≤ topB z es
    · rw [if_pos g]
      exact hP q h0 g
    · rw [if_neg g]
      exact hN q (by omega) h1) h0 (by omega)
  have : (if q ≤ topB z es then eI z ns es q else (es.length : Int)) ≤ (es.length : Int) := by
    split
    · exact P q h0 (by assumption)
    · exact Int.le_refl _
  rw [List.length_append, List.length_singleton]
  omega
end
/-! ### more servers -/
section
variable {z : Int} {ns ns' : List Str} {es : List En} {q : Int}
theorem inW_more (h : ∀ s ∈ ns, s ∈ ns') {k : Int} (g : InW z ns es q k) : InW z ns' es q k := by
  obtain ⟨s, hs, w⟩ := inW_iff.mp g
  exact inW_iff.mpr ⟨s, h s hs, w⟩
theorem poss_more (hz : 1 ≤ z) (pos : ∀ x ∈ es, 0 ≤ x.2) (h : ∀ s ∈ ns, s ∈ ns') (g : obsD z ns es = .none) : obsD z ns' es = .none ∧ ∀ q, 0 ≤ q → q ≤ topB z es → eI z ns' es q ≤ eI z ns es q ∧ lI z ns es q ≤ lI z ns' es q := by
  obtain ⟨F, P⟩ := (poss_iff hz pos).mp g
  have hE : ∀ q, 0 ≤ q → q ≤ topB z es → eI z ns' es q ≤ eI z ns es q := fun q h0 h1 => e_least' (f := topB z es) eI_pos (fun q h0 _ => eI_up h0) (fun q h0 h1 => inW_more h (eI_in P h0 h1)) h0 h1
  exact ⟨(poss_iff hz pos).mpr ⟨F, fun q h0 h1 => Int.le_trans (hE q h0 h1) (P q h0 h1)⟩, fun q h0 h1 => ⟨hE q h0 h1, l_most' (fun q h0 h1 => lI_up P h0 h1) (fun q h0 h1 => inW_more h (lI_in P h0 h1)) h0 h1⟩⟩
end
/-! ### other names -/
def renE (r : Str → Str) (e : En) : En := (r e.1, e.2)
/-- names, one for one -/
structure Ren (ns ns' : List Str) (r : Str → Str) : Prop where
  inj : ∀ a ∈ ns, ∀ b ∈ ns, r a = r b → a = b
  mem : ∀ x, x ∈ ns' ↔ ∃ a ∈ ns, r a = x
section
variable {z : Int} {ns ns' : List Str} {es : List En} {r : Str → Str} {q k : Int} {s : Str}
theorem slW_ren (R : Ren ns ns' r) (hn : ∀ e ∈ es, e.1 ∈ ns) (hs : s ∈ ns) : SlW z (es.map (renE r)) (r s) q k ↔ SlW z es s q k := by
  have get : ∀ (i : Nat) x, (es.map (renE r))[i]? = some x ↔ ∃ e, es[i]? = some e ∧ renE r e = x := fun i x => by
    rw [List.getElem?_map]
    exact Option.map_eq_some_iff
  have nm : ∀ (i : Nat) e, es[i]? = some e → (r e.1 = r s ↔ e.1 = s) := fun i e hi => ⟨fun h => R.inj _ (hn e (List.mem_of_getElem? hi)) _ hs h, fun h => by rw [h]⟩
  constructor
  · rintro ⟨k0, k1, own, lo, hi⟩
    rw [List.length_map] at k1
    exact ⟨k0, k1, fun i e h hq => (nm i e h).mp (own i _ ((get i _).mpr ⟨e, h, rfl⟩) hq), fun i e h g hq => lo i _ ((get i _).mpr ⟨e, h, rfl⟩) ((nm i e h).mpr g) hq, fun i e h g hq => hi i _ ((get i _).mpr ⟨e, h, rfl⟩) ((nm i e h).mpr g) hq⟩
  · rintro ⟨k0, k1, own, lo, hi⟩
    refine ⟨k0, by rw [List.length_map]; exact k1, fun i x h hq => ?_, fun i x h g hq => ?_, fun i x h g hq => ?_⟩
    · obtain ⟨e, h1, rfl⟩ := (get i x).mp h
      exact (nm i e h1).mpr (own i e h1 hq)
    · obtain ⟨e, h1, rfl⟩ := (get i x).mp h
      exact lo i e h1 ((nm i e h1).mp g) hq
    · obtain ⟨e, h1, rfl⟩ := (get i x).mp h
      exact hi i e h1 ((nm i e h1).mp g) hq
theorem inW_ren (R : Ren ns ns' r) (hn : ∀ e ∈ es, e.1 ∈ ns) : InW z ns es q k ↔ InW z ns' (es.map (renE r)) q k := by
  rw [inW_iff, inW_iff]
  constructor
  · rintro ⟨s, hs, w⟩
    exact ⟨r s, (R.mem _).mpr ⟨s, hs, rfl⟩, (slW_ren R hn hs).mpr w⟩
  · rintro ⟨x, hx, w⟩
    obtain ⟨s, hs, rfl⟩ := (R.mem x).mp hx
    exact ⟨s, hs, (slW_ren R hn hs).mp w⟩
theorem topB_ren : topB z (es.map (renE r)) = topB z es := by
  show maxDf (-1) ((es.map (renE r)).map fun e => e.2 / z) = _
  rw [List.map_map]
  rfl
theorem fine_ren (R : Ren ns ns' r) (hn : ∀ e ∈ es, e.1 ∈ ns) : Fine z (es.map (renE r)) ↔ Fine z es := by
  have nm : ∀ e ∈ es, ∀ f ∈ es, (r e.1 = r f.1 ↔ e.1 = f.1) := fun e he f hf => ⟨fun h => R.inj _ (hn e he) _ (hn f hf) h, fun h => by rw [h]⟩
  constructor
  · rintro ⟨a, b, c⟩
    rw [List.pairwise_map] at a b c
    exact ⟨a, b.imp_of_mem fun {x y} hx hy h g => (nm x hx y hy).mp (h g), c.imp_of_mem fun {x y} hx hy h g => h ((nm x hx y hy).mpr g)⟩
  · rintro ⟨a, b, c⟩
    refine ⟨?_, ?_, ?_⟩ <;> rw [List.pairwise_map]
    · exact a
    · exact b.imp_of_mem fun {x y} hx hy h g => (nm x hx y hy).mpr (h g)
    · exact c.imp_of_mem fun {x y} hx hy h g => h ((nm x hx y hy).mp g)
theorem sFrom_ren (R : Ren ns ns' r) (hn : ∀ e ∈ es, e.1 ∈ ns) {t : Int} : sFrom z ns' (es.map (renE r)) q t = sFrom z ns es q t := sFrom_congr (by rw [List.length_map]) fun k => (inW_ren R hn).symm
theorem eI_ren (R : Ren ns ns' r) (hn : ∀ e ∈ es, e.1 ∈ ns) : eI z ns' (es.map (renE r)) q = eI z ns es q := eI_congr (by rw [List.length_map]) (fun q _ k => (inW_ren R hn).symm) _
theorem lI_ren (R : Ren ns ns' r) (hn : ∀ e ∈ es, e.1 ∈ ns) : lI z ns' (es.map (renE r)) q = lI z ns es q := lI_congr (by rw [List.length_map]) topB_ren (fun q k => (inW_ren R hn).symm) _
theorem poss_ren (R : Ren ns ns' r) (hn : ∀ e ∈ es, e.1 ∈ ns) (hz : 1 ≤ z) (pos : ∀ x ∈ es, 0 ≤ x.2) : obsD z ns' (es.map (renE r)) = .none ↔ obsD z ns es = .none := by
  have pos' : ∀ x ∈ es.map (renE r), 0 ≤ x.2 := fun x hx => by
    obtain ⟨e, he, rfl⟩ := List.mem_map.mp hx
    exact pos e he
  rw [poss_iff hz pos', poss_iff hz pos, fine_ren R hn, topB_ren, List.length_map]
  have hE : ∀ q, eI z ns' (es.map (renE r)) q = eI z ns es q := fun q => eI_ren R hn
  simp only [hE]
theorem winO_ren (R : Ren ns ns' r) (hn : ∀ e ∈ es, e.1 ∈ ns) (hs : s ∈ ns) : winO z (es.map (renE r)) (r s) q = winO z es s q := by
  have nm : ∀ e ∈ es, (r e.1 = r s ↔ e.1 = s) := fun e he => ⟨fun h => R.inj _ (hn e he) _ hs h, fun h => by rw [h]⟩
  have h1 : ∀ es : List En, (∀ e ∈ es, (r e.1 = r s ↔ e.1 = s)) → (hold z (es.map (renE r)) q).any (fun x => x != r s) = (hold z es q).any (fun x => x != s) := by
    intro es
    induction es with
    | nil => intro _; rfl
    | cons e es ih =>
      intro h
      have ih := ih fun x hx => h x (List.mem_cons_of_mem _ hx)
      have he := h e List.mem_cons_self
      rw [List.map_cons, hold_cons, hold_cons]
      show ((if e.2 / z = q then r e.1 :: hold z (es.map (renE r)) q else hold z (es.map (renE r)) q).any fun x => x != r s) = _
      by_cases g : e.2 / z = q
      · rw [if_pos g, if_pos g, List.any_cons, List.any_cons, ih]
        congr 1
        by_cases k : e.1 = s
        · simp [k]
        · have : ¬ r e.1 = r s := fun w => k (he.mp w)
          rw [show (r e.1 != r s) = true from bne_iff_ne.mpr this, show (e.1 != s) = true from bne_iff_ne.mpr k]
      · rw [if_neg g, if_neg g, ih]
  have h2 : ∀ (es : List En) (k : Nat), (∀ e ∈ es, (r e.1 = r s ↔ e.1 = s)) → plc z (r s) k (es.map (renE r)) = plc z s k es := by
    intro es
    induction es with
    | nil => intro k _; rfl
    | cons e es ih =>
      intro k h
      have ih := ih (k + 1) fun x hx => h x (List.mem_cons_of_mem _ hx)
      have he := h e List.mem_cons_self
      rw [List.map_cons, plc_cons, plc_cons, ih]
      by_cases g : e.1 = s
      · rw [if_pos g, if_pos (show (renE r e).1 = r s from he.mpr g)]
        rfl
      · rw [if_neg g, if_neg (show ¬ (renE r e).1 = r s from fun w => g (he.mp w))]
  unfold NbM.winO
  rw [h1 es nm, h2 es 0 nm, List.length_map]
theorem right_ren (R : Ren ns ns' r) (hn : ∀ e ∈ es, e.1 ∈ ns) {th : Thing} (h : Right z ns es th) : Right z ns' (es.map (renE r)) th := by
  cases th with
  | two w i j =>
    obtain ⟨h1, e, g, h2, h3, h4⟩ := h
    have nm : (r e.1 = r g.1 ↔ e.1 = g.1) := ⟨fun h => R.inj _ (hn e (List.mem_of_getElem? h2)) _ (hn g (List.mem_of_getElem? h3)) h, fun h => by rw [h]⟩
    refine ⟨h1, renE r e, renE r g, by rw [List.getElem?_map, h2]; rfl, by rw [List.getElem?_map, h3]; rfl, ?_⟩
    rcases h4 with ⟨w1, h5⟩ | ⟨w1, h5, h6⟩ | ⟨w1, h5, h6⟩
    · exact .inl ⟨w1, h5⟩
    · exact .inr (.inl ⟨w1, fun k => h5 (nm.mp k), h6⟩)
    · exact .inr (.inr ⟨w1, nm.mpr h5, h6⟩)
  | pushed st =>
    obtain ⟨h1, h2, h3⟩ := h
    refine ⟨(fine_ren R hn).mpr h1, ?_, h3⟩
    have key : ∀ (st : List (Int × Int)) (low s : Int), SOk z ns es low s st → SOk z ns' (es.map (renE r)) low s st := by
      intro st
      induction st with
      | nil =>
        intro low s h
        show s = ((es.map (renE r)).length : Int) + 1
        rw [List.length_map]
        exact h
      | cons p t ih =>
        rintro low s ⟨k1, ⟨e, ke, k2⟩, k3, k4, k5, k6⟩
        exact ⟨k1, ⟨renE r e, List.mem_map_of_mem ke, k2⟩, k3, by rw [List.length_map]; exact k4, by rw [sFrom_ren R hn, k5], ih _ _ k6⟩
    exact key st _ _ h2
end
end NbO

set_option Elab.async false
set_option linter.all false
set_option maxRecDepth 100000
set_option maxHeartbeats 4000000
/-! The law's walks over marks: what they find is e and l. What a story's takes say of e and l. -/
namespace NbA
open PySem PySem.Spec PyProof.Rows L2 Nb NbE NbS NbF NbP NbK NbL NbX NbW NbZ NbM NbQ NbC NbG NbH NbI NbJ NbO
section
variable {z : Int} {ns : List Str} {es : List En} {q q' m part : Int}
theorem mem_marks (hz : 1 ≤ z) (pos : ∀ e ∈ es, 0 ≤ e.2) : m ∈ marks z es ↔ 0 ≤ m ∧ ∃ e ∈ es, m = e.2 / z ∨ m = e.2 / z - 1 := by
  rw [show m ∈ marks z es ↔ _ from (marksG_ok (seen z es) 0 (lt_seen z es) (seen_pos hz pos)).2 m]
  constructor
  · rintro ⟨h, b, hb, hm⟩
    obtain ⟨e, he, rfl⟩ := (mem_seen z b es).mp hb
    exact ⟨h, e, he, hm⟩
  · rintro ⟨h, e, he, hm⟩
    exact ⟨h, _, (mem_seen z _ es).mpr ⟨e, he, rfl⟩, hm⟩
theorem lt_marks (hz : 1 ≤ z) (pos : ∀ e ∈ es, 0 ≤ e.2) : (marks z es).Pairwise (· < ·) := (marksG_ok (seen z es) 0 (lt_seen z es) (seen_pos hz pos)).1
theorem mark_top (hz : 1 ≤ z) (pos : ∀ e ∈ es, 0 ≤ e.2) (h : m ∈ marks z es) : 0 ≤ m ∧ m ≤ topB z es := by
  obtain ⟨h0, e, he, hm⟩ := (mem_marks hz pos).mp h
  have := topB_le (z := z) he
  omega
theorem no_seen (hz : 1 ≤ z) (pos : ∀ e ∈ es, 0 ≤ e.2) (hn : ∀ m ∈ marks z es, q < m → q' ≤ m) (hm : q' ∈ marks z es) (h : q + 1 < q') (h0 : -1 ≤ q) : (∀ e ∈ es, e.2 / z < q + 1 ∨ q' + 1 ≤ e.2 / z) ∧ ∃ e ∈ es, e.2 / z = q' + 1 := by
  have key : ∀ e ∈ es, e.2 / z < q + 1 ∨ q' + 1 ≤ e.2 / z := fun e he => by
    refine Classical.byContradiction fun g => ?_
    have h1 := hn (e.2 / z) ((mem_marks hz pos).mpr ⟨by omega, e, he, .inl rfl⟩) (by omega)
    have h2 := hn (e.2 / z - 1) ((mem_marks hz pos).mpr ⟨by omega, e, he, .inr rfl⟩) (by omega)
    omega
  refine ⟨key, ?_⟩
  obtain ⟨_, e, he, hq⟩ := (mem_marks hz pos).mp hm
  have := key e he
  exact ⟨e, he, by omega⟩
theorem fwd (hz : 1 ≤ z) (pos : ∀ e ∈ es, 0 ≤ e.2) (P : ∀ q, 0 ≤ q → q ≤ topB z es → eI z ns es q ≤ (es.length : Int)) (hn : ∀ m ∈ marks z es, q < m → q' ≤ m) (hm : q' ∈ marks z es) (h : q < q') (h0 : -1 ≤ q) : sFrom z ns es q' (pI z ns es (q + 1)) = eI z ns es q' := by
  have hmt := mark_top hz pos hm
  by_cases e : q' = q + 1
  · rw [← e, ← eI_eq hmt.1]
  · obtain ⟨k, _⟩ := no_seen hz pos hn hm (by omega) h0
    rw [sFrom_wins (wins_gap k (by omega) (by omega) : _ = wins z es ns (q + 1)), ← eI_eq (by omega), gap_e' k (by omega) (P _ (by omega) (by omega)) (q := q') (by omega) (by omega)]
theorem bwd (hz : 1 ≤ z) (pos : ∀ e ∈ es, 0 ≤ e.2) (P : ∀ q, 0 ≤ q → q ≤ topB z es → eI z ns es q ≤ (es.length : Int)) (hn : ∀ m ∈ marks z es, q < m → q' ≤ m) (hm : q' ∈ marks z es) (h : q < q') (h0 : 0 ≤ q) : sUpTo z ns es q (lI z ns es q') = lI z ns es q := by
  have hmt := mark_top hz pos hm
  by_cases e : q' = q + 1
  · rw [e, ← lI_eq (by omega)]
  · obtain ⟨k, x, hx, hxe⟩ := no_seen hz pos hn hm (by omega) (by omega)
    have ht := topB_le (z := z) hx
    rw [lI_eq (q := q) (by omega), gap_l' P k (by omega) (by omega) (q := q') (by omega) (by omega), gap_l' P k (by omega) (by omega) (q := q + 1) (by omega) (by omega)]
/-- the first mark from a block on tells that block's e and l -/
theorem due_e (hz : 1 ≤ z) (pos : ∀ e ∈ es, 0 ≤ e.2) (P : ∀ q, 0 ≤ q → q ≤ topB z es → eI z ns es q ≤ (es.length : Int)) (h0 : 0 ≤ part) (hm : m ∈ marks z es) (hp : part ≤ m) (hn : ∀ k ∈ marks z es, part ≤ k → m ≤ k) : eI z ns es m = eI z ns es part := by
  have hmt := mark_top hz pos hm
  by_cases e : m = part
  · rw [e]
  · obtain ⟨k, _⟩ := no_seen (q := part - 1) hz pos (fun k hk h => hn k hk (by omega)) hm (by omega) (by omega)
    exact gap_e' (f := part) (b := m + 1) (fun x hx => by have := k x hx; omega) h0 (P _ h0 (by omega)) hp (by omega)
theorem due_l (hz : 1 ≤ z) (pos : ∀ e ∈ es, 0 ≤ e.2) (P : ∀ q, 0 ≤ q → q ≤ topB z es → eI z ns es q ≤ (es.length : Int)) (h0 : 0 ≤ part) (hm : m ∈ marks z es) (hp : part ≤ m) (hn : ∀ k ∈ marks z es, part ≤ k → m ≤ k) : lI z ns es m = lI z ns es part := by
  have hmt := mark_top hz pos hm
  by_cases e : m = part
  · rw [e]
  · obtain ⟨k, x, hx, hxe⟩ := no_seen (q := part - 1) hz pos (fun k hk h => hn k hk (by omega)) hm (by omega) (by omega)
    have ht := topB_le (z := z) hx
    have k' : ∀ e ∈ es, e.2 / z < part ∨ m + 1 ≤ e.2 / z := fun x hx => by have := k x hx; omega
    rw [gap_l' P k' h0 (by omega) (q := m) hp (by omega), gap_l' P k' h0 (by omega) (q := part) (by omega) (by omega)]
theorem walkN_fwd (hz : 1 ≤ z) (pos : ∀ e ∈ es, 0 ≤ e.2) (P : ∀ q, 0 ≤ q → q ≤ topB z es → eI z ns es q ≤ (es.length : Int)) : ∀ (qs : List Int) (q : Int), -1 ≤ q → qs.Pairwise (· < ·) → (∀ x ∈ qs, q < x) → (∀ m ∈ marks z es, q < m → m ∈ qs) → (∀ x ∈ qs, x ∈ marks z es) →
    walkN (sFrom z ns es) (es.length : Int) (some (pI z ns es (q + 1))) qs = qs.map fun x => some (eI z ns es x)
  | [], _, _, _, _, _, _ => rfl
  | x :: r, q, h0, hp, hl, hi, hm => by
    obtain ⟨p1, p2⟩ := List.pairwise_cons.mp hp
    have hx := hm x List.mem_cons_self
    have hxt := mark_top hz pos hx
    have hqx := hl x List.mem_cons_self
    have f := fwd (ns := ns) hz pos P (q := q) (q' := x) (fun m hmm h => by
      rcases List.mem_cons.mp (hi m hmm h) with rfl | g
      · exact Int.le_refl _
      · have := p1 m g
        omega) hx hqx h0
    have hle := P x hxt.1 hxt.2
    show (if (es.length : Int) < sFrom z ns es x (pI z ns es (q + 1)) then none else some (sFrom z ns es x (pI z ns es (q + 1)))) :: walkN (sFrom z ns es) (es.length : Int) (if (es.length : Int) < sFrom z ns es x (pI z ns es (q + 1)) then none else some (sFrom z ns es x (pI z ns es (q + 1)))) r = _
    rw [f, if_neg (by omega)]
    have ih := walkN_fwd hz pos P r x (by omega) p2 p1 (fun m hmm h => by
      rcases List.mem_cons.mp (hi m hmm (by omega)) with rfl | g
      · omega
      · exact g) (fun y hy => hm y (List.mem_cons_of_mem _ hy))
    rw [pI_succ (by omega)] at ih
    rw [ih]
    rfl
theorem zip_map_self {α β : Type} (f : α → β) : ∀ l : List α, l.zip (l.map f) = l.map fun x => (x, f x)
  | [] => rfl
  | x :: r => by
    show (x, f x) :: r.zip (r.map f) = _
    rw [zip_map_self f r]
    rfl
theorem lwalk_eq (hz : 1 ≤ z) (pos : ∀ e ∈ es, 0 ≤ e.2) (h : obsD z ns es = .none) : lwalk z ns es = (marks z es).map fun x => (x, some (eI z ns es x)) := by
  have P := ((poss_iff hz pos).mp h).2
  have w := walkN_fwd (ns := ns) hz pos P (marks z es) (-1) (by omega) (lt_marks hz pos) (fun x hx => by have := mark_top hz pos hx; omega) (fun m hm _ => hm) (fun x hx => hx)
  unfold lwalk
  rw [show pI z ns es (-1 + 1) = 0 from rfl] at w
  rw [w]
  exact zip_map_self _ _
theorem rev_next {l : List Int} (hp : l.Pairwise (· < ·)) {i : Nat} (h : l.reverse[i]? = some q) (h' : l.reverse[i + 1]? = some q') : q' < q ∧ ∀ m ∈ l, q' < m → q ≤ m := by
  have hr : l.reverse.Pairwise fun a b => b < a := List.pairwise_reverse.mpr hp
  obtain ⟨hi, h⟩ := List.getElem?_eq_some_iff.mp h
  obtain ⟨hj, h'⟩ := List.getElem?_eq_some_iff.mp h'
  have lt := List.pairwise_iff_getElem.mp hr
  refine ⟨?_, fun m hm hq => ?_⟩
  · rw [← h, ← h']
    exact lt i (i + 1) hi hj (by omega)
  · obtain ⟨k, hk, rfl⟩ := List.mem_iff_getElem.mp (List.mem_reverse.mpr hm)
    rcases (by omega : k < i ∨ k = i ∨ k = i + 1 ∨ i + 1 < k) with g | rfl | rfl | g
    · have := lt k i hk hi g
      omega
    · omega
    · omega
    · have := lt (i + 1) k hj hk g
      omega
theorem rev_first {l : List Int} (hp : l.Pairwise (· < ·)) (h : l.reverse[0]? = some q) : ∀ m ∈ l, m ≤ q := fun m hm => by
  have hr : l.reverse.Pairwise fun a b => b < a := List.pairwise_reverse.mpr hp
  obtain ⟨hi, h⟩ := List.getElem?_eq_some_iff.mp h
  obtain ⟨k, hk, rfl⟩ := List.mem_iff_getElem.mp (List.mem_reverse.mpr hm)
  rcases (by omega : k = 0 ∨ 0 < k) with rfl | g
  · omega
  · have := List.pairwise_iff_getElem.mp hr 0 k hi hk g
    omega
theorem top_mark (hz : 1 ≤ z) (pos : ∀ e ∈ es, 0 ≤ e.2) (h : 0 ≤ topB z es) : topB z es ∈ marks z es := by
  rcases top_mem hz pos with ⟨_, h2⟩ | ⟨_, e, he, h2⟩
  · omega
  · exact (mem_marks hz pos).mpr ⟨h, e, he, .inl h2.symm⟩
/-- the first of the law's backward walk -/
theorem bwd0 (hz : 1 ≤ z) (pos : ∀ e ∈ es, 0 ≤ e.2) (h : (marks z es).reverse[0]? = some q) : sUpTo z ns es q (es.length : Int) = lI z ns es q := by
  have hm : q ∈ marks z es := List.mem_reverse.mp (List.mem_of_getElem? h)
  have ht := mark_top hz pos hm
  have h2 := rev_first (lt_marks hz pos) h _ (top_mark hz pos (by omega))
  rw [show q = topB z es by omega, lI_top]
theorem candU_app (s : Int) (ws us : List (Int × Int)) : candU s (ws ++ us) = candU s ws ++ candU s us := by
  unfold candU
  rw [List.filter_append, List.map_append]
theorem min_if (a b : Int) : (if a < b then a else b) = min a b := by split <;> omega
/-- the first of the rows from a block on -/
def rowsF (z : Int) (es : List En) (F : Int → Int) : List (Int × Int) := (marks z es).map fun q => (q, F q)
def dueL (rows : List (Int × Int)) (part : Int) : Option Int := ((rows.filter fun r => decide (part ≤ r.1)).map fun r => r.2).head?
theorem due_first {F : Int → Int} : ∀ {l : List Int}, l.Pairwise (· < ·) → (∃ m ∈ l, part ≤ m) → ∃ m ∈ l, part ≤ m ∧ (∀ k ∈ l, part ≤ k → m ≤ k) ∧ dueL (l.map fun q => (q, F q)) part = some (F m)
  | [], _, h => by
    obtain ⟨m, hm, _⟩ := h
    cases hm
  | x :: r, hp, h => by
    obtain ⟨p1, p2⟩ := List.pairwise_cons.mp hp
    by_cases g : part ≤ x
    · refine ⟨x, List.mem_cons_self, g, fun k hk _ => ?_, ?_⟩
      · rcases List.mem_cons.mp hk with rfl | hk
        · exact Int.le_refl _
        · have := p1 k hk
          omega
      · unfold dueL
        rw [List.map_cons, List.filter_cons_of_pos (by simpa using g)]
        rfl
    · obtain ⟨m, hm, h1, h2, h3⟩ := due_first (F := F) p2 (by
        obtain ⟨m, hm, h1⟩ := h
        rcases List.mem_cons.mp hm with rfl | hm
        · exact absurd h1 g
        · exact ⟨m, hm, h1⟩)
      refine ⟨m, List.mem_cons_of_mem _ hm, h1, fun k hk hk2 => ?_, ?_⟩
      · rcases List.mem_cons.mp hk with rfl | hk
        · exact absurd hk2 g
        · exact h2 k hk hk2
      · unfold dueL at h3 ⊢
        rw [List.map_cons, List.filter_cons_of_neg (by simpa using g)]
        exact h3
theorem due_rows_e (hz : 1 ≤ z) (pos : ∀ e ∈ es, 0 ≤ e.2) (P : ∀ q, 0 ≤ q → q ≤ topB z es → eI z ns es q ≤ (es.length : Int)) (h0 : 0 ≤ part) (h1 : part ≤ topB z es) : dueL (rowsF z es (eI z ns es)) part = some (eI z ns es part) := by
  obtain ⟨m, hm, h2, h3, h4⟩ := due_first (F := eI z ns es) (lt_marks hz pos) ⟨_, top_mark hz pos (by omega), h1⟩
  rw [show dueL (rowsF z es (eI z ns es)) part = _ from h4, due_e hz pos P h0 hm h2 h3]
theorem due_rows_l (hz : 1 ≤ z) (pos : ∀ e ∈ es, 0 ≤ e.2) (P : ∀ q, 0 ≤ q → q ≤ topB z es → eI z ns es q ≤ (es.length : Int)) (h0 : 0 ≤ part) (h1 : part ≤ topB z es) : dueL (rowsF z es (lI z ns es)) part = some (lI z ns es part) := by
  obtain ⟨m, hm, h2, h3, h4⟩ := due_first (F := lI z ns es) (lt_marks hz pos) ⟨_, top_mark hz pos (by omega), h1⟩
  rw [show dueL (rowsF z es (lI z ns es)) part = _ from h4, due_l hz pos P h0 hm h2 h3]
theorem len_marks (z : Int) (es : List En) : (marks z es).length ≤ 2 * es.length := by
  have h1 := len_seen z es
  have h2 := len_marksG (seen z es) 0
  show (marksG 0 (seen z es)).length ≤ _
  omega
theorem lI_mono (P : ∀ q, 0 ≤ q → q ≤ topB z es → eI z ns es q ≤ (es.length : Int)) (h0 : 0 ≤ q) (h : q ≤ q') (ht : q' ≤ topB z es) : lI z ns es q ≤ lI z ns es q' := by
  have key : ∀ k : Nat, q + k ≤ topB z es → lI z ns es q ≤ lI z ns es (q + k) := fun k => by
    induction k with
    | zero => intro _; rw [show q + ((0 : Nat) : Int) = q by omega]; exact Int.le_refl _
    | succ k ih =>
      intro hk
      have h1 := ih (by omega)
      have h2 := lI_up P (q := q + k) (by omega) (by omega)
      rw [show q + ((k + 1 : Nat) : Int) = q + k + 1 by omega]
      exact Int.le_trans h1 h2
  have := key (q' - q).toNat (by omega)
  rwa [show q + ((q' - q).toNat : Int) = q' by omega] at this
/-! ### takes -/
theorem tale_top {tk : List Take} {fr : Int} (hz : 1 ≤ z) (pos : ∀ e ∈ es, 0 ≤ e.2) (T : Tale z es tk fr) (h0 : 0 ≤ q) (h : q ≤ topB z es) : q < fr := by
  rcases top_mem hz pos with ⟨_, h2⟩ | ⟨_, e, he, h2⟩
  · omega
  · obtain ⟨k, hk⟩ := List.mem_iff_getElem?.mp he
    obtain ⟨t, ht, _, hb, _⟩ := T.own k e hk
    have := (T.rng t ht).2.2
    omega
theorem tale_el {tk : List Take} {fr : Int} (hz : 1 ≤ z) (pos : ∀ e ∈ es, 0 ≤ e.2) (T : Tale z es tk fr) (hn : ∀ t ∈ tk, t.n ∈ ns) {t : Take} (ht : t ∈ tk) (h1 : t.a ≤ q) (h2 : q ≤ t.b) (hq : q ≤ topB z es) : eI z ns es q ≤ (t.s : Int) ∧ (t.s : Int) ≤ lI z ns es q := by
  have h0 : 0 ≤ q := by have := (T.rng t ht).1; omega
  let g : Int → Int := fun q => if h : 0 ≤ q ∧ q < fr then (((T.cov q h.1 h.2).choose.s : Nat) : Int) else 0
  have ga : ∀ (x : Int) (u : Take), u ∈ tk → u.a ≤ x → x ≤ u.b → g x = (u.s : Int) := fun x u hu a1 a2 => by
    have r := T.rng u hu
    have hx : 0 ≤ x ∧ x < fr := ⟨by omega, by omega⟩
    have hs := (T.cov x hx.1 hx.2).choose_spec
    show (if h : 0 ≤ x ∧ x < fr then (((T.cov x h.1 h.2).choose.s : Nat) : Int) else 0) = _
    rw [dif_pos hx, T.one hs.1 hu hs.2.1 hs.2.2 a1 a2]
  have cov : ∀ x, 0 ≤ x → x ≤ topB z es → ∃ u ∈ tk, u.a ≤ x ∧ x ≤ u.b := fun x x0 x1 => T.cov x x0 (tale_top hz pos T x0 x1)
  have w : ∀ x, 0 ≤ x → x ≤ topB z es → InW z ns es x (g x) := fun x x0 x1 => by
    obtain ⟨u, hu, a1, a2⟩ := cov x x0 x1
    obtain ⟨lo, hi, k1, k2, k3⟩ := T.win hu a1 a2
    rw [ga x u hu a1 a2]
    refine ⟨(lo, hi), ?_, k2, k3⟩
    unfold wins
    exact List.mem_filterMap.mpr ⟨u.n, hn u hu, k1⟩
  have up : ∀ x, 0 ≤ x → x < topB z es → g x ≤ g (x + 1) := fun x x0 x1 => by
    obtain ⟨u, hu, a1, a2⟩ := cov x x0 (by omega)
    obtain ⟨v, hv, b1, b2⟩ := cov (x + 1) (by omega) (by omega)
    rw [ga x u hu a1 a2, ga (x + 1) v hv b1 b2]
    rcases T.same hu hv with rfl | ⟨_, k⟩ | ⟨k, _⟩
    · exact Int.le_refl _
    · exact Int.ofNat_le.mpr k
    · omega
  have g0 : 0 ≤ g 0 := by
    obtain ⟨u, hu, a1, a2⟩ := cov 0 (Int.le_refl _) (by omega)
    rw [ga 0 u hu a1 a2]
    omega
  have r1 := e_least' (f := topB z es) g0 up w h0 hq
  have r2 := l_most' up w h0 hq
  rw [ga q t ht h1 h2] at r1 r2
  exact ⟨r1, r2⟩
end
end NbA

set_option Elab.async false
set_option linter.all false
set_option maxRecDepth 100000
set_option maxHeartbeats 4000000
/-! Owners: the slots at which a server can take a block, what a Reach holds, the promises of its methods and of owners_of, slots_of, sure_owner. -/
namespace NbD
open PySem PySem.Spec PyProof.Rows L2 Nb NbE NbS NbF NbP NbK NbL NbX NbW NbZ NbM NbQ NbC NbG NbH NbI NbJ NbO NbA
/-- the slots at which a server can take a block -/
def slO (z : Int) (ns : List Str) (es : List En) (n : Str) (q : Int) : Option (Int × Int) := (winO z es n q).bind fun w => if max w.1 (eI z ns es q) ≤ min w.2 (lI z ns es q) then some (max w.1 (eI z ns es q), min w.2 (lI z ns es q)) else none
def ownL (z : Int) (ns : List Str) (es : List En) (q : Int) : List Str := ns.filter fun n => (slO z ns es n q).isSome
def spansP (z : Int) (es : List En) : List (Int × Int) := (starts z es).zip (((starts z es).drop 1).map (fun x => x - 1) ++ (starts z es).drop ((starts z es).length - 1))
section
variable {z : Int} {ns : List Str} {es : List En} {q f : Int} {n : Str}
theorem len_spansP : (spansP z es).length = (starts z es).length := by
  unfold spansP
  rw [List.length_zip, List.length_append, List.length_map, List.length_drop, List.length_drop]
  omega
theorem spans_get {i : Nat} {p : Int × Int} (h : (spansP z es)[i]? = some p) : (starts z es)[i]? = some p.1 := by
  unfold spansP at h
  exact (List.getElem?_zip_eq_some.mp h).1
theorem own_some (P : ∀ q, 0 ≤ q → q ≤ topB z es → eI z ns es q ≤ (es.length : Int)) (h0 : 0 ≤ q) (h : q ≤ topB z es) : ownL z ns es q ≠ [] := by
  obtain ⟨p, hp, h1, h2⟩ := eI_in P h0 h
  unfold wins at hp
  obtain ⟨n, hn, hw⟩ := List.mem_filterMap.mp hp
  have hel := e_le_l' P h0 h
  refine List.ne_nil_of_mem (a := n) (List.mem_filter.mpr ⟨hn, ?_⟩)
  unfold slO
  rw [hw]
  show (if max p.1 (eI z ns es q) ≤ min p.2 (lI z ns es q) then some (max p.1 (eI z ns es q), min p.2 (lI z ns es q)) else none).isSome = true
  rw [if_pos (by omega)]
  rfl
/-- the span of a block: its index, and that all is alike in it -/
theorem at_span' (hz : 1 ≤ z) (pos : ∀ e ∈ es, 0 ≤ e.2) (h : obsD z ns es = .none) (h0 : 0 ≤ q) (h1 : q ≤ topB z es) :
    ∃ (i : Nat) (f : Int), ((starts z es).filter fun b => decide (b ≤ q)).length = i + 1 ∧ (starts z es)[i]? = some f ∧ 0 ≤ f ∧ f ≤ q ∧ eI z ns es f = eI z ns es q ∧ lI z ns es f = lI z ns es q ∧ ∀ n, winO z es n f = winO z es n q := by
  obtain ⟨_, P⟩ := (poss_iff hz pos).mp h
  rcases top_mem hz pos with ⟨_, ht⟩ | ⟨_, e, he, ht⟩
  · omega
  · obtain ⟨i, st, g1, g2, g3, g4, g5⟩ := span_at (q := q) (lt_seen z es) (seen_pos hz pos) h0 ⟨e.2 / z, (mem_seen z _ es).mpr ⟨e, he, rfl⟩, by omega⟩
    have g1' : (starts z es)[i]? = some st := g1
    refine ⟨i, st, g2, g1', g3, g4, ?_⟩
    rcases g5 with rfl | ⟨b, hb, hqb, g5⟩
    · exact ⟨rfl, rfl, fun _ => rfl⟩
    · obtain ⟨e', he', hb'⟩ := (mem_seen z b es).mp hb
      have hbt : b ≤ topB z es := hb' ▸ topB_le he'
      have gp : ∀ e ∈ es, e.2 / z < st ∨ b ≤ e.2 / z := fun e he => g5 _ ((mem_seen z _ es).mpr ⟨e, he, rfl⟩)
      refine ⟨(gap_e' gp g3 (P st g3 (by omega)) g4 hqb).symm, ?_, fun n => ?_⟩
      · rw [gap_l' P gp g3 hbt g4 hqb, gap_l' P gp g3 hbt (Int.le_refl _) (by omega)]
      · have := wins_gap (ns := [n]) gp g4 hqb
        unfold wins at this
        rw [List.filterMap_cons, List.filterMap_cons] at this
        cases k1 : winO z es n q <;> cases k2 : winO z es n st <;> rw [k1, k2] at this <;> simp at this
        rw [this]
theorem slO_congr (he : eI z ns es f = eI z ns es q) (hl : lI z ns es f = lI z ns es q) (hw : winO z es n f = winO z es n q) : slO z ns es n f = slO z ns es n q := by
  unfold slO
  rw [he, hl, hw]
theorem ownL_congr (he : eI z ns es f = eI z ns es q) (hl : lI z ns es f = lI z ns es q) (hw : ∀ n, winO z es n f = winO z es n q) : ownL z ns es f = ownL z ns es q := by
  unfold ownL
  congr 1
  funext n
  rw [slO_congr he hl (hw n)]
end
/-! ### what a Reach holds -/
abbrev CR (K : PySem.W.Frag) : Addr := He.ga K "Reach"
def fsR (sg sp fi la : Addr) : List (Str × V) := [("sight", .ref sg), ("spans", .ref sp), ("first_slots", .ref fi), ("last_slots", .ref la)]
structure RF (K : PySem.W.Frag) : Prop where
  cl : Cls K (CR K)
  nS : NoAttr K (CR K) "sight"
  nP : NoAttr K (CR K) "spans"
  nF : NoAttr K (CR K) "first_slots"
  nL : NoAttr K (CR K) "last_slots"
theorem fsR_sight (sg sp fi la : Addr) : (fsR sg sp fi la).lookup ("sight" : Str) = some (.ref sg) := by
  unfold fsR
  rw [List.lookup_cons, show (("sight" : Str) == ("sight" : Str)) = true by decide +kernel]
theorem fsR_spans (sg sp fi la : Addr) : (fsR sg sp fi la).lookup ("spans" : Str) = some (.ref sp) := by
  unfold fsR
  rw [List.lookup_cons, show (("spans" : Str) == ("sight" : Str)) = false by decide +kernel, List.lookup_cons, show (("spans" : Str) == ("spans" : Str)) = true by decide +kernel]
theorem fsR_first (sg sp fi la : Addr) : (fsR sg sp fi la).lookup ("first_slots" : Str) = some (.ref fi) := by
  unfold fsR
  rw [List.lookup_cons, show (("first_slots" : Str) == ("sight" : Str)) = false by decide +kernel, List.lookup_cons, show (("first_slots" : Str) == ("spans" : Str)) = false by decide +kernel, List.lookup_cons, show (("first_slots" : Str) == ("first_slots" : Str)) = true by decide +kernel]
theorem fsR_last (sg sp fi la : Addr) : (fsR sg sp fi la).lookup ("last_slots" : Str) = some (.ref la) := by
  unfold fsR
  rw [List.lookup_cons, show (("last_slots" : Str) == ("sight" : Str)) = false by decide +kernel, List.lookup_cons, show (("last_slots" : Str) == ("spans" : Str)) = false by decide +kernel, List.lookup_cons, show (("last_slots" : Str) == ("first_slots" : Str)) = false by decide +kernel, List.lookup_cons,
    show (("last_slots" : Str) == ("last_slots" : Str)) = true by decide +kernel]
theorem fsR_no {m : Str} (h1 : (m == ("sight" : Str)) = false) (h2 : (m == ("spans" : Str)) = false) (h3 : (m == ("first_slots" : Str)) = false) (h4 : (m == ("last_slots" : Str)) = false) (sg sp fi la : Addr) : (fsR sg sp fi la).lookup m = none := by
  unfold fsR
  rw [List.lookup_cons, h1, List.lookup_cons, h2, List.lookup_cons, h3, List.lookup_cons, h4]
  rfl
def ReachAt (K : PySem.W.Frag) (H : Hp) (r : Addr) (z : Int) (ns : List Str) (es : List En) : Prop :=
  ∃ dx sg sp fi la ts, H r = some (.ins (CR K) dx (fsR sg sp fi la)) ∧ SightAt K H sg z ns es ∧ H sp = some (.lst (ts.map V.ref)) ∧ Prs H ts (spansP z es) ∧ H fi = some (.lst ((earl z ns es).map V.int)) ∧ H la = some (.lst ((late z ns es).map V.int)) ∧ obsD z ns es = .none
theorem ReachAt.same {K : PySem.W.Frag} {H H' : Hp} {r : Addr} {z : Int} {ns : List Str} {es : List En} (h : ReachAt K H r z ns es) (e : Same H H') : ReachAt K H' r z ns es := by
  obtain ⟨dx, sg, sp, fi, la, ts, h1, h2, h3, h4, h5, h6, h7⟩ := h
  exact ⟨dx, sg, sp, fi, la, ts, e _ _ h1, h2.same e, e _ _ h3, h4.imp fun t xs g => e _ _ g, e _ _ h5, e _ _ h6, h7⟩
theorem ReachAt.wf {K : PySem.W.Frag} {H : Hp} {r : Addr} {z : Int} {ns : List Str} {es : List En} (h : ReachAt K H r z ns es) : WF z ns es := by
  obtain ⟨dx, sg, sp, fi, la, ts, h1, ⟨_, _, _, _, _, _, _, _, hw⟩, _⟩ := h
  exact hw
theorem mutI {K : PySem.W.Frag} {H : Hp} {sg p : Addr} {z : Int} {ns : List Str} {es : List En} (h : SightAt K H sg z ns es) {c d : Addr} {f g : List (Str × V)} (hp : H p = some (.ins c d f)) (ne : sg ≠ p) : SightAt K (upd H p (.ins c d g)) sg z ns es := by
  obtain ⟨dx, nl, dh, dp, own, h1, hnl, D, hw⟩ := h
  exact ⟨dx, nl, dh, dp, own, upd_keep h1 ne, upd_keep hnl (ne_of hnl hp (by simp)), D.mutP hp, hw⟩
theorem sight_ne {K : PySem.W.Frag} {H : Hp} {sg p : Addr} {z : Int} {ns : List Str} {es : List En} (h : SightAt K H sg z ns es) {c d : Addr} {f : List (Str × V)} (hp : H p = some (.ins c d f)) (hf : ∀ nl m dh dp, f ≠ fsS nl m dh dp) : sg ≠ p := fun e => by
  obtain ⟨dx, nl, dh, dp, own, h1, _⟩ := h
  rw [e, hp] at h1
  simp only [Option.some.injEq, HO.ins.injEq] at h1
  exact hf _ _ _ _ h1.2.2
theorem prs_of {H : Hp} : ∀ {ts : List Addr} {ps : List (Int × Int)}, ts.length = ps.length → (∀ (j : Nat) t p, ts[j]? = some t → ps[j]? = some p → H t = some (.tup [.int p.1, .int p.2])) → Prs H ts ps
  | [], [], _, _ => trivial
  | t :: ts, p :: ps, h, k => ⟨k 0 t p rfl rfl, prs_of (by simpa using h) fun j t p h1 h2 => k (j + 1) t p (by simpa using h1) (by simpa using h2)⟩
  | [], _ :: _, h, _ => by simp at h
  | _ :: _, [], h, _ => by simp at h
theorem cut_last (xs : List V) : cutV xs (some (-1)) none = xs.drop (xs.length - 1) := by
  unfold cutV
  rw [HT.sIx_none]
  have e : HT.sIx xs.length 0 (some (-1)) = xs.length - 1 := by
    show (if (-1 : Int) < 0 then ((-1 : Int) + (xs.length : Int)).toNat else min (-1 : Int).toNat xs.length) = xs.length - 1
    rw [if_pos (by decide)]
    omega
  rw [e]
  exact List.take_of_length_le (by rw [List.length_drop]; exact Nat.le_refl _)
/-! ### promises -/
def sp_Sight_whole_spans (K : PySem.W.Frag) : Sp := fun vs H Q _ => ∃ (p : Addr) (z : Int) (ns : List Str) (es : List En), vs = [.ref p] ∧ SightAt K H p z ns es ∧ ∀ a ts H', H a = none → Same H H' → H' a = some (.lst (ts.map V.ref)) → Prs H' ts (spansP z es) → Q (.ref a) H'
def sp_Reach_init (K : PySem.W.Frag) : Sp := fun vs H Q _ => ∃ (r dx p : Addr) (b : Bool) (z : Int) (ns : List Str) (es : List En), vs = [.ref r, .ref p] ∧ H r = some (.ins (CR K) dx []) ∧ LogAt K H p b z ns es ∧ obsD z ns es = .none ∧ ∀ H', Keep r H H' → ReachAt K H' r z ns es → Q .non H'
def sp_Reach_slots_in (K : PySem.W.Frag) : Sp := fun vs H Q _ => ∃ (r : Addr) (i : Nat) (n : Str) (f : Int) (z : Int) (ns : List Str) (es : List En), vs = [.ref r, .int (i : Int), .str n] ∧ ReachAt K H r z ns es ∧ (starts z es)[i]? = some f ∧ 0 ≤ f ∧ f ≤ topB z es ∧ n ∈ ns ∧ ∀ v H', Same H H' → Dp K H' v (duD (slO z ns es n f)) → Q v H'
def sp_Reach_owners_in (K : PySem.W.Frag) : Sp := fun vs H Q _ => ∃ (r : Addr) (i : Nat) (f : Int) (z : Int) (ns : List Str) (es : List En), vs = [.ref r, .int (i : Int)] ∧ ReachAt K H r z ns es ∧ (starts z es)[i]? = some f ∧ 0 ≤ f ∧ f ≤ topB z es ∧ ∀ a H', H a = none → Same H H' → H' a = some (.lst ((ownL z ns es f).map V.str)) → Q (.ref a) H'
def sp_owners_of (K : PySem.W.Frag) : Sp := fun vs H Q _ => ∃ (p : Addr) (b : Bool) (z : Int) (ns : List Str) (es : List En) (q : Int), vs = [.ref p, .int q] ∧ LogAt K H p b z ns es ∧ 0 ≤ q ∧ q ≤ topB z es ∧ obsD z ns es = .none ∧ ∀ a H', H a = none → Same H H' → H' a = some (.lst ((ownL z ns es q).map V.str)) → Q (.ref a) H'
def sp_slots_of (K : PySem.W.Frag) : Sp := fun vs H Q _ => ∃ (p : Addr) (b : Bool) (z : Int) (ns : List Str) (es : List En) (n : Str) (q : Int), vs = [.ref p, .str n, .int q] ∧ LogAt K H p b z ns es ∧ n ∈ ns ∧ 0 ≤ q ∧ q ≤ topB z es ∧ obsD z ns es = .none ∧ ∀ v H', Same H H' → Dp K H' v (duD (slO z ns es n q)) → Q v H'
def sureV : List Str → V
  | [n] => .str n
  | _ => .non
def sp_sure_owner (K : PySem.W.Frag) : Sp := fun vs H Q _ => ∃ (p : Addr) (b : Bool) (z : Int) (ns : List Str) (es : List En) (q : Int), vs = [.ref p, .int q] ∧ LogAt K H p b z ns es ∧ 0 ≤ q ∧ q ≤ topB z es ∧ obsD z ns es = .none ∧ ∀ H', Same H H' → Q (sureV (ownL z ns es q)) H'
end NbD

set_option Elab.async false
set_option linter.all false
set_option maxRecDepth 100000
set_option maxHeartbeats 4000000
/-! Jars: a feed whose numbers have bounds; what a draw costs is counted, so that its powers stay small enough. -/
namespace NbN
open PySem PySem.Spec PyProof.Rows L2 Nb NbE NbS NbF NbP NbK NbL NbX NbW NbZ NbM NbQ NbC NbG NbH NbI NbJ NbO NbA NbD
/-- a power of numbers that may be great -/
def CPowW (i j : Int) : Prop := 0 ≤ j ∧ j ≤ 1000 ∧ i.natAbs.log2 < 100000
theorem CPowW.ok {i j : Int} (h : CPowW i j) : (Builtin.Int.intBits i : Int) * j ≤ 2 ^ 27 := by
  obtain ⟨h0, h1, h2⟩ := h
  have b : Builtin.Int.intBits i ≤ i.natAbs.log2 + 1 := by
    unfold Builtin.Int.intBits
    split <;> omega
  have h3 : (Builtin.Int.intBits i : Int) ≤ 100000 := by omega
  have h4 : (Builtin.Int.intBits i : Int) * j ≤ 100000 * 1000 := Int.mul_le_mul h3 h1 h0 (by decide)
  exact Int.le_trans h4 (by decide)
theorem op_powW {X : Cx} : OpR X (binaryOp .Pow) (rI CPowW fun i j => .int (i ^ j.toNat)) := opI fun _ _ _ _ _ _ _ hc q => pow_int hc.1 hc.ok q
theorem powW_ok {i j : Int} (h0 : 0 ≤ i) (h : i ≤ 10 ^ 200) (j0 : 0 ≤ j) (j1 : j ≤ 1000) : CPowW i j := by
  refine ⟨j0, j1, ?_⟩
  have h2 : i.natAbs ≤ 10 ^ 200 := by omega
  by_cases e : i.natAbs = 0
  · rw [e]
    decide
  · exact Nat.lt_of_lt_of_le ((Nat.log2_lt e).mpr (Nat.lt_of_le_of_lt h2 (by decide +kernel : (10 : Nat) ^ 200 < 2 ^ 700))) (by decide)
/-- a text, some times over -/
def rMulS : R2 := fun x y H Q => ∃ z i, x = .str z ∧ y = .int i ∧ 0 ≤ i ∧ i ≤ 16 ∧ z.length ≤ 1000 ∧ Q (.str (Txt.mul z i)) H
theorem op_mulS {X : Cx} : OpR X (binaryOp .Mult) rMulS := by
  intro pins s σ H x y v u Q I rx ry h
  obtain ⟨z, i, rfl, rfl, h0, h1, hz, q⟩ := h
  obtain ⟨t, rfl⟩ := rx
  obtain ⟨t2, rfl⟩ := ry
  exact SB.mul (mulOk_of 1000 16 hz h1 (by omega) (by decide) (by decide)) fun t' tk => ⟨.str (Txt.mul z i), H, I.tok _, ⟨_, rfl⟩, q⟩
/-- the a-th drawn name -/
def nm (a r k : Nat) : Str := Txt.mul ⟨#[97 + (a + r)]⟩ (1 + (k : Int)) ++ ⟨#[109 + a]⟩
theorem nm_ok : ∀ a : Nat, a < 12 → ∀ r : Nat, r < 13 → ∀ k : Nat, k < 3 → nameOk (nm a r k) = true ∧ (nm a r k).cps.toList.getLast? = some (109 + a) := by decide +kernel
theorem nm_len : ∀ a : Nat, a < 12 → ∀ r : Nat, r < 13 → ∀ k : Nat, k < 3 → (Txt.mul ⟨#[97 + (a + r)]⟩ (1 + (k : Int))).length + (⟨#[109 + a]⟩ : Str).length ≤ 8 := by decide +kernel
theorem alpha_at : ∀ i : Nat, i < 26 → (Str.ofString "abcdefghijklmnopqrstuvwxyz").cps.toList[i]? = some (97 + i) := by decide +kernel
theorem last_at : ∀ i : Nat, i < 12 → (Str.ofString "mnopqrstuvwx").cps.toList[i]? = some (109 + i) := by decide +kernel
theorem nm_one {a r k a' r' k' : Nat} (h1 : a < 12) (h2 : r < 13) (h3 : k < 3) (g1 : a' < 12) (g2 : r' < 13) (g3 : k' < 3) (e : nm a r k = nm a' r' k') : a = a' := by
  have h := (nm_ok a h1 r h2 k h3).2
  rw [e, (nm_ok a' g1 r' g2 k' g3).2] at h
  have := Option.some.inj h
  omega
/-- a jar that k draws have been made of, at most -/
def Jar (k : Nat) (H : Hp) (fa : Addr) : Prop := ∃ x y z : Int, H fa = some (.lst [.int x, .int y, .int z]) ∧ 0 ≤ y ∧ y ≤ 10 ^ 60 ∧ 0 ≤ z ∧ z ≤ (k : Int)
theorem Jar.fd {k : Nat} {H : Hp} {fa : Addr} (h : Jar k H fa) : Feed H fa := by
  obtain ⟨x, y, z, h, _⟩ := h
  exact ⟨x, y, z, h⟩
theorem Jar.mono {k m : Nat} {H : Hp} {fa : Addr} (h : Jar k H fa) (l : k ≤ m) : Jar m H fa := by
  obtain ⟨x, y, z, h, h1, h2, h3, h4⟩ := h
  exact ⟨x, y, z, h, h1, h2, h3, by omega⟩
theorem Jar.same {k : Nat} {H H' : Hp} {fa : Addr} (h : Jar k H fa) (e : Same H H') : Jar k H' fa := by
  obtain ⟨x, y, z, h, r⟩ := h
  exact ⟨x, y, z, e _ _ h, r⟩
/-- c draws at most, and nothing else of what was there is changed -/
structure StJ (fa : Addr) (c : Nat) (H H' : Hp) : Prop where
  st : Stp fa H H'
  jr : ∀ k, Jar k H fa → Jar (k + c) H' fa
section
variable {fa p : Addr} {c c' k : Nat} {H H1 H2 : Hp} {o : HO}
theorem StJ.of (e : Same H H1) (f : Feed H fa) : StJ fa 0 H H1 := ⟨.of e f, fun _ j => j.same e⟩
theorem StJ.refl (f : Feed H fa) : StJ fa 0 H H := .of (Same.refl _) f
theorem StJ.trans (a : StJ fa c H H1) (b : StJ fa c' H1 H2) : StJ fa (c + c') H H2 := ⟨a.st.trans b.st, fun k j => by
  have := b.jr _ (a.jr k j)
  rwa [Nat.add_assoc] at this⟩
theorem StJ.same (a : StJ fa c H H1) (b : Same H1 H2) : StJ fa c H H2 := ⟨a.st.same b, fun k j => (a.jr k j).same b⟩
theorem StJ.mono (a : StJ fa c H H1) (l : c ≤ c') : StJ fa c' H H1 := ⟨a.st, fun k j => (a.jr k j).mono (by omega)⟩
theorem StJ.new (a : StJ fa c H H1) (h : H1 p = none) : StJ fa c H (upd H1 p o) := a.same (Same.new (Same.refl _) h)
theorem StJ.mut (a : StJ fa c H H1) (h : H p = none) (n : p ≠ fa) : StJ fa c H (upd H1 p o) := ⟨a.st.mut h n, fun k j => by
  obtain ⟨x, y, z, g, r⟩ := a.jr k j
  exact ⟨x, y, z, by rw [upd_ne n.symm]; exact g, r⟩⟩
theorem StJ.fd (a : StJ fa c H H1) : Feed H1 fa := a.st.fd
theorem StJ.kp (a : StJ fa c H H1) (b : Addr) (o : HO) (n : b ≠ fa) (h : H b = some o) : H1 b = some o := a.st.kp b o n h
theorem StJ.free (a : StJ fa c H H1) (n : p ≠ fa) (h : H1 p = none) : H p = none := a.st.free n h
theorem StJ.put (a : StJ fa c H H1) {x y z : Int} (r : ∀ k, Jar k H fa → 0 ≤ y ∧ y ≤ 10 ^ 60 ∧ 0 ≤ z ∧ z ≤ ((k + c : Nat) : Int)) : StJ fa c H (upd H1 fa (.lst [.int x, .int y, .int z])) := ⟨a.st.put, fun k j => by
  obtain ⟨h1, h2, h3, h4⟩ := r k j
  exact ⟨x, y, z, upd_same, h1, h2, h3, h4⟩⟩
end
theorem jar_z {k : Nat} {H : Hp} {fa : Addr} {x y z : Int} (h : Jar k H fa) (hf : H fa = some (.lst [.int x, .int y, .int z])) : 0 ≤ y ∧ y ≤ 10 ^ 60 ∧ 0 ≤ z ∧ z ≤ (k : Int) := by
  obtain ⟨x', y', z', g, r⟩ := h
  rw [hf] at g
  simp only [Option.some.injEq, HO.lst.injEq, List.cons.injEq, V.int.injEq, and_true] at g
  obtain ⟨rfl, rfl, rfl⟩ := g
  exact r
/-! ### the state of a scene: the next free block, who holds what, the names -/
structure JSt (H : Hp) (st dh em nl : Addr) (fr : Int) (held : Str → Option (Int × Int)) (ns : List Str) (i : Nat) : Prop where
  ls : H st = some (.lst [.int fr, .ref dh, .ref em, .ref nl])
  hd : HeldX H dh held i
  cr : CrewAt H nl ns
/-- all stays but the jar, the state and its dict -/
structure StK (fa st dh : Addr) (c : Nat) (H H' : Hp) : Prop where
  kp : ∀ b o, b ≠ fa → b ≠ st → b ≠ dh → H b = some o → H' b = some o
  jr : ∀ k, Jar k H fa → Jar (k + c) H' fa
theorem jar_ne {k : Nat} {H : Hp} {fa p : Addr} {o : HO} (h : Jar k H fa) (n : p ≠ fa) : Jar k (upd H p o) fa := by
  obtain ⟨x, y, z, g, r⟩ := h
  exact ⟨x, y, z, upd_keep g n.symm, r⟩
theorem stk_dict {fa st dh : Addr} {c : Nat} {H H1 : Hp} {o : HO} (e : StJ fa c H H1) (hc : c ≤ 8) (n2 : dh ≠ fa) : StK fa st dh 8 H (upd H1 dh o) :=
  ⟨fun q u h1 _ h3 hq => by rw [upd_ne h3]; exact e.kp q u h1 hq, fun k j => (jar_ne (e.jr k j) n2).mono (by omega)⟩
theorem StK.new {fa st dh p : Addr} {c : Nat} {H H1 : Hp} {o : HO} (e : StK fa st dh c H H1) (h : H1 p = none) : StK fa st dh c H (upd H1 p o) :=
  ⟨fun q u h1 h2 h3 hq => upd_keep (e.kp q u h1 h2 h3 hq) (ne_of_none (e.kp q u h1 h2 h3 hq) h), fun k j => (e.jr k j).same (Same.new (Same.refl _) h)⟩
theorem StK.state {fa st dh : Addr} {c : Nat} {H H1 : Hp} {o : HO} (e : StK fa st dh c H H1) (n : st ≠ fa) : StK fa st dh c H (upd H1 st o) :=
  ⟨fun q u h1 h2 h3 hq => by rw [upd_ne h2]; exact e.kp q u h1 h2 h3 hq, fun k j => jar_ne (e.jr k j) n⟩
theorem if_to {R : Bool → Hp → Prop} {tt : TT} {ta tb : TS} {D : Ends} {σ : L2.St} {H : Hp} (hc : ∀ QQ : Bool → Hp → Prop, (∀ b H', R b H' → QQ b H') → tt σ H QQ) (ha : ∀ H', R true H' → ta D σ H') (hb : ∀ H', R false H' → tb D σ H') : tIfS tt ta tb D σ H := hc _ fun b H' r => by
  cases b
  · exact hb H' r
  · exact ha H' r
theorem heldX_put {H : Hp} {dh t : Addr} {held : Str → Option (Int × Int)} {j : Nat} {kvs : List (Key × V)} {n : Str} {o d : Int} (S : HeldX H dh held j) (h : H dh = some (.dK kvs)) (ht : H t = some (.tup [.int o, .int d])) : HeldX (upd H dh (.dK (putK kvs (.inr n) (.ref t)))) dh (putH held n (o, d)) (j + 1) := by
  obtain ⟨kv2, c1, c2, c3⟩ := S
  rw [h] at c1
  cases c1
  have kt : ∀ t' ys, H t' = some (.tup ys) → upd H dh (.dK (putK kvs (.inr n) (.ref t))) t' = some (.tup ys) := fun t ys g => upd_keep g (ne_of g h (by simp))
  refine ⟨_, upd_same, Nat.le_trans (putK_le _ _ _) (by omega), fun m => ?_⟩
  rw [valV_put]
  unfold putH
  by_cases g : m = n
  · subst g
    rw [if_pos rfl, if_pos rfl]
    exact .inr ⟨t, o, d, rfl, rfl, kt _ _ ht⟩
  · rw [if_neg g, if_neg (fun e => g (by injection e))]
    exact (c3 m).imp id fun ⟨t, o, d, x, y, w⟩ => ⟨t, o, d, x, y, kt _ _ w⟩
theorem JSt.ne {H : Hp} {st dh em nl fa : Addr} {fr : Int} {held : Str → Option (Int × Int)} {ns : List Str} {i : Nat} (S : JSt H st dh em nl fr held ns i) (f : Feed H fa) : st ≠ fa ∧ dh ≠ fa ∧ st ≠ dh := by
  obtain ⟨kvs, a, _⟩ := S.hd
  have h := S.ls
  obtain ⟨x, y, z, g⟩ := f
  refine ⟨fun e => ?_, fun e => ?_, fun e => ?_⟩
  · rw [e, g] at h
    cases h
  · rw [e, g] at a
    cases a
  · rw [e, a] at h
    cases h
theorem JSt.stp {H H' : Hp} {st dh em nl fa : Addr} {fr : Int} {held : Str → Option (Int × Int)} {ns : List Str} {i : Nat} (S : JSt H st dh em nl fr held ns i) (f : Feed H fa) (e : Stp fa H H') : JSt H' st dh em nl fr held ns i := by
  obtain ⟨n1, n2, _⟩ := S.ne f
  exact ⟨e.kp _ _ n1 S.ls, S.hd.imp (fun _ g => e.kp _ _ n2 g) (fun t xs g => e.kp _ _ (ne_tup f g) g) (Nat.le_refl _), S.cr.stp f e⟩
theorem JSt.same {H H' : Hp} {st dh em nl : Addr} {fr : Int} {held : Str → Option (Int × Int)} {ns : List Str} {i : Nat} (S : JSt H st dh em nl fr held ns i) (e : Same H H') : JSt H' st dh em nl fr held ns i :=
  ⟨e _ _ S.ls, S.hd.imp (fun _ g => e _ _ g) (fun t xs g => e _ _ g) (Nat.le_refl _), S.cr.same e⟩
/-- the dict and the state's first cell are written anew -/
theorem JSt.put {H : Hp} {st dh em nl t : Addr} {fr o d : Int} {held : Str → Option (Int × Int)} {ns : List Str} {i : Nat} {kvs : List (Key × V)} {n : Str} (S : JSt H st dh em nl fr held ns i) (h : H dh = some (.dK kvs)) (ht : H t = some (.tup [.int o, .int d])) (nd : st ≠ dh) :
    JSt (upd H dh (.dK (putK kvs (.inr n) (.ref t)))) st dh em nl fr (putH held n (o, d)) ns (i + 1) := ⟨upd_keep S.ls nd, heldX_put S.hd h ht, upd_keep S.cr (ne_of S.cr h (by simp))⟩
theorem JSt.free {H : Hp} {st dh em nl : Addr} {fr fr' : Int} {held : Str → Option (Int × Int)} {ns : List Str} {i : Nat} (S : JSt H st dh em nl fr held ns i) (nd : st ≠ dh) : JSt (upd H st (.lst [.int fr', .ref dh, .ref em, .ref nl])) st dh em nl fr' held ns i := by
  have h := S.ls
  have hn : nl ≠ st := fun e => by
    have := S.cr
    rw [e] at this
    have t : H st = some (.lst (ns.map V.str)) := this
    rw [h] at t
    cases ns with
    | nil => cases t
    | cons _ _ => cases t
  exact ⟨upd_same, S.hd.imp (fun _ g => upd_keep g nd.symm) (fun t xs g => upd_keep g (ne_of g h (by simp))) (Nat.le_refl _), upd_keep S.cr hn⟩
theorem StK.out {fa st dh : Addr} {c c' k : Nat} {H H1 H2 : Hp} (e : StJ fa c H H1) (h : StK fa st dh c' H1 H2) (hs : H st = none) (hd : H dh = none) (j : Jar k H fa) : StJ fa (c + c') H H2 :=
  ⟨⟨fun b o n hb => h.kp b o n (fun q => by rw [q, hs] at hb; cases hb) (fun q => by rw [q, hd] at hb; cases hb) (e.kp b o n hb), (h.jr _ (e.jr k j)).fd⟩, fun k j => by
    have := h.jr _ (e.jr k j)
    rwa [Nat.add_assoc] at this⟩
theorem ents_stk {fa st dh em nl s : Addr} {c : Nat} {H H1 : Hp} {fr : Int} {held : Str → Option (Int × Int)} {ns : List Str} {i : Nat} {es : List En} (h : StK fa st dh c H H1) (S : JSt H st dh em nl fr held ns i) (f : Feed H fa) (he : EntsAt H s es) : EntsAt H1 s es := by
  obtain ⟨ts, a, b⟩ := he
  obtain ⟨x, y, z, g⟩ := f
  obtain ⟨kvs, g2, _⟩ := S.hd
  have g1 := S.ls
  have kt : ∀ t xs, H t = some (.tup xs) → H1 t = some (.tup xs) := fun t xs k => h.kp _ _ (fun q => by rw [q, g] at k; cases k) (fun q => by rw [q, g1] at k; cases k) (fun q => by rw [q, g2] at k; cases k) k
  refine ⟨ts, h.kp _ _ (fun q => ?_) (fun q => ?_) (fun q => ?_) a, b.imp kt⟩
  · rw [q, g] at a
    cases ts <;> cases a
  · rw [q, g1] at a
    cases ts <;> cases a
  · rw [q, g2] at a
    cases a
theorem JSt.mutS {H : Hp} {st dh em nl s : Addr} {fr : Int} {held : Str → Option (Int × Int)} {ns : List Str} {i : Nat} {ts : List Addr} {o : HO} (S : JSt H st dh em nl fr held ns i) (hs : H s = some (.lst (ts.map V.ref))) (hn : ns ≠ []) : JSt (upd H s o) st dh em nl fr held ns i := by
  have g1 := S.ls
  have n1 : st ≠ s := fun q => by
    rw [q, hs] at g1
    cases ts <;> cases g1
  have n2 : nl ≠ s := fun q => by
    have t : H nl = some (.lst (ns.map V.str)) := S.cr
    rw [q, hs] at t
    cases ns with
    | nil => exact hn rfl
    | cons _ _ => cases ts <;> cases t
  exact ⟨upd_keep S.ls n1, S.hd.imp (fun kvs g => upd_keep g (ne_of g hs (by simp))) (fun t xs g => upd_keep g (ne_of g hs (by simp))) (Nat.le_refl _), upd_keep S.cr n2⟩
/-! ### promises -/
def sp_law_scene (_ : PySem.W.Frag) : Sp := fun vs H Q _ => ∃ (fa : Addr) (mo ma jm : Int) (k : Nat), vs = [.ref fa, .int mo, .int ma, .int jm] ∧ Jar k H fa ∧ k ≤ 800000 ∧ 1 ≤ mo ∧ mo ≤ 60 ∧ 1 ≤ ma ∧ ma ≤ 12 ∧ 0 ≤ jm ∧ jm ≤ 10 ^ 36 ∧
  ∀ r z c s ns es tks fr H', H r = none → StJ fa 2000 H H' → H' r = some (.tup [.int z, .ref c, .ref s]) → SizeOk z → CrewAt H' c ns → Crew ns → (ns.length : Int) ≤ ma → EntsAt H' s es → (es.length : Int) ≤ mo → (∀ e ∈ es, e.1 ∈ ns ∧ 0 ≤ e.2) → Tale z es tks fr → (∀ t ∈ tks, t.n ∈ ns) → (∀ e ∈ es, e.2 < 10 ^ 80) → Q (.ref r) H'
def sp_law_step (_ : PySem.W.Frag) : Sp := fun vs H Q _ => ∃ (fa st dh em nl : Addr) (z jm : Int) (k : Nat) (fr : Int) (held : Str → Option (Int × Int)) (ns : List Str) (i : Nat), vs = [.ref fa, .int z, .ref st, .int jm] ∧ Jar k H fa ∧ k ≤ 900000 ∧ SizeOk z ∧ 0 ≤ jm ∧ jm ≤ 10 ^ 36 ∧ JSt H st dh em nl fr held ns i ∧ i ≤ 1000 ∧ 1 ≤ ns.length ∧ ns.length ≤ 12 ∧
  (∀ n o d, held n = some (o, d) → 0 ≤ o ∧ o ≤ 10 ^ 100 ∧ 0 ≤ d ∧ d ≤ z) ∧ 0 ≤ fr ∧ fr ≤ 10 ^ 100 ∧
  (∀ n x H', n ∈ ns → 0 ≤ x → x ≤ jm + 3 → StK fa st dh 8 H H' → JSt H' st dh em nl (fr + x + 1) (putH held n (fr + x, 0)) ns (i + 1) → Q .non H') ∧
  ∀ n o d x t H', n ∈ ns → held n = some (o, d) → d ≤ x → x < z → StK fa st dh 8 H H' → JSt H' st dh em nl fr (putH held n (o, x + 1)) ns (i + 1) → H' t = some (.tup [.str n, .int (o * z + x)]) → Q (.ref t) H'
def sp_law_jar (K : PySem.W.Frag) : Sp := fun vs H Q _ => ∃ (a : Addr) (ns : List Int) (k : Int), vs = [.ref a, .int k] ∧ SqL K H a (ns.map V.int) ∧ ns.length ≤ 63 ∧ 0 ≤ k ∧ k ≤ 1000 ∧ ∀ fa H', H fa = none → Same H H' → Jar 0 H' fa → Q (.ref fa) H'
def sp_law_tap (_ : PySem.W.Frag) : Sp := fun vs H Q _ => ∃ (fa : Addr) (n : Int) (k : Nat), vs = [.ref fa, .int n] ∧ Jar k H fa ∧ k ≤ 1000000 ∧ 0 < n ∧ n ≤ 10 ^ 200 ∧ ∀ (r : Int) H', 0 ≤ r → r < n → StJ fa 1 H H' → Q (.int r) H'
end NbN

set_option Elab.async false
set_option linter.all false
set_option maxRecDepth 100000
set_option maxHeartbeats 4000000
/-! Spans as the program has them; lists of owners and how many there are; dicts of whole numbers by their totals. -/
namespace NbAa
open PySem PySem.Spec PyProof.Rows L2 Nb NbE NbS NbF NbP NbK NbL NbX NbW NbZ NbM NbQ NbC NbG NbH NbI NbJ NbO NbA NbD NbN
/-! ### spans -/
def prsG : Int → List Int → List (Int × Int)
  | _, [] => []
  | f, b :: r => (if f < b then [(f, b - 1), (b, b)] else [(b, b)]) ++ prsG (b + 1) r
theorem prsG_cons (f b : Int) (r : List Int) : prsG f (b :: r) = (if f < b then [(f, b - 1), (b, b)] else [(b, b)]) ++ prsG (b + 1) r := rfl
theorem prsG_fst : ∀ (xs : List Int) (f : Int), (prsG f xs).map (·.1) = startsG f xs
  | [], _ => rfl
  | b :: r, f => by
    rw [prsG_cons, startsG_cons, List.map_append, prsG_fst r (b + 1)]
    split <;> rfl
def spansL (z : Int) (es : List En) : List (Int × Int) := prsG 0 (NbM.seen z es)
theorem spansL_fst (z : Int) (es : List En) : (spansL z es).map (·.1) = starts z es := prsG_fst _ _
theorem len_spansL (z : Int) (es : List En) : (spansL z es).length = (starts z es).length := by rw [← spansL_fst, List.length_map]
theorem prsG_gap : ∀ (xs : List Int) (f : Int), xs.Pairwise (· < ·) → (∀ x ∈ xs, f ≤ x) → ∀ p ∈ prsG f xs, p.1 = p.2 ∨ ∃ b ∈ xs, p.2 = b - 1 ∧ f ≤ p.1 ∧ ∀ x ∈ xs, x < p.1 ∨ b ≤ x
  | [], f, _, _, p, h => by cases h
  | b :: r, f, hs, hb, p, h => by
    have hs' := List.pairwise_cons.mp hs
    rw [prsG_cons] at h
    rcases List.mem_append.mp h with h | h
    · split at h
      · rcases List.mem_cons.mp h with rfl | h
        · refine .inr ⟨b, List.mem_cons_self .., rfl, Int.le_refl _, fun x hx => .inr ?_⟩
          rcases List.mem_cons.mp hx with rfl | hx
          · exact Int.le_refl _
          · exact Int.le_of_lt (hs'.1 x hx)
        · rw [List.mem_singleton.mp h]
          exact .inl rfl
      · rw [List.mem_singleton.mp h]
        exact .inl rfl
    · rcases prsG_gap r (b + 1) hs'.2 (fun x hx => hs'.1 x hx) p h with g | ⟨b', g1, g2, g3, g4⟩
      · exact .inl g
      · have := hb b (List.mem_cons_self ..)
        refine .inr ⟨b', List.mem_cons_of_mem _ g1, g2, by omega, fun x hx => ?_⟩
        rcases List.mem_cons.mp hx with rfl | hx
        · exact .inl (by omega)
        · exact g4 x hx
theorem prsG_in {M : Int} : ∀ (xs : List Int) (f : Int), xs.Pairwise (· < ·) → (∀ x ∈ xs, f ≤ x ∧ x ≤ M) → ∀ p ∈ prsG f xs, f ≤ p.1 ∧ p.1 ≤ p.2 ∧ p.2 ≤ M
  | [], f, _, _, p, h => by cases h
  | b :: r, f, hs, hb, p, h => by
    rw [prsG_cons] at h
    have b0 := hb b (List.mem_cons_self ..)
    rcases List.mem_append.mp h with h | h
    · split at h
      · rcases List.mem_cons.mp h with rfl | h
        · exact ⟨Int.le_refl _, by show f ≤ b - 1; omega, by show b - 1 ≤ M; omega⟩
        · rw [List.mem_singleton.mp h]
          exact ⟨b0.1, Int.le_refl _, b0.2⟩
      · rw [List.mem_singleton.mp h]
        exact ⟨b0.1, Int.le_refl _, b0.2⟩
    · have h1 := prsG_in r (b + 1) (List.pairwise_cons.mp hs).2 (fun x hx => ⟨by have := (List.pairwise_cons.mp hs).1 x hx; omega, (hb x (List.mem_cons_of_mem _ hx)).2⟩) p h
      exact ⟨by omega, h1.2⟩
section
variable {z q : Int} {ns : List Str} {es : List En} {p : Int × Int}
theorem span_alike (hz : 1 ≤ z) (pos : ∀ e ∈ es, 0 ≤ e.2) (ho : obsD z ns es = .none) (hp : p ∈ spansL z es) (h1 : p.1 ≤ q) (h2 : q ≤ p.2) : eI z ns es p.1 = eI z ns es q ∧ lI z ns es p.1 = lI z ns es q ∧ ∀ n, winO z es n p.1 = winO z es n q := by
  obtain ⟨_, P⟩ := (poss_iff hz pos).mp ho
  rcases prsG_gap _ _ (lt_seen z es) (seen_pos hz pos) p hp with g | ⟨b, hb, g2, g3, g4⟩
  · obtain rfl : p.1 = q := by omega
    exact ⟨rfl, rfl, fun _ => rfl⟩
  · obtain ⟨e', he', hb'⟩ := (mem_seen z b es).mp hb
    have hbt : b ≤ topB z es := hb' ▸ topB_le he'
    have gp : ∀ e ∈ es, e.2 / z < p.1 ∨ b ≤ e.2 / z := fun e he => g4 _ ((mem_seen z _ es).mpr ⟨e, he, rfl⟩)
    refine ⟨(gap_e' gp g3 (P _ g3 (by omega)) h1 (by omega)).symm, ?_, fun n => ?_⟩
    · rw [gap_l' P gp g3 hbt h1 (by omega), gap_l' P gp g3 hbt (Int.le_refl _) (by omega)]
    · have := wins_gap (ns := [n]) gp h1 (show q < b by omega)
      unfold wins at this
      rw [List.filterMap_cons, List.filterMap_cons] at this
      cases k1 : winO z es n q <;> cases k2 : winO z es n p.1 <;> rw [k1, k2] at this <;> simp at this
      rw [this]
theorem span_top (hz : 1 ≤ z) (pos : ∀ e ∈ es, 0 ≤ e.2) (hp : p ∈ spansL z es) : 0 ≤ p.1 ∧ p.1 ≤ p.2 ∧ p.2 ≤ topB z es := by
  refine prsG_in (M := topB z es) _ _ (lt_seen z es) (fun x hx => ⟨seen_pos hz pos x hx, ?_⟩) p hp
  obtain ⟨e, he, rfl⟩ := (mem_seen z x es).mp hx
  exact topB_le he
/-- as the program puts them together -/
theorem zip_prs : ∀ (xs : List Int) (f : Int), xs.Pairwise (· < ·) → (∀ x ∈ xs, f ≤ x) → (startsG f xs).zip (((startsG f xs).drop 1).map (fun x => x - 1) ++ (startsG f xs).drop ((startsG f xs).length - 1)) = prsG f xs
  | [], f, _, _ => rfl
  | b :: r, f, hs, hb => by
    have hs' := List.pairwise_cons.mp hs
    have ih := zip_prs r (b + 1) hs'.2 (fun x hx => hs'.1 x hx)
    have key : (b :: startsG (b + 1) r).zip (((b :: startsG (b + 1) r).drop 1).map (fun x => x - 1) ++ (b :: startsG (b + 1) r).drop ((b :: startsG (b + 1) r).length - 1)) = (b, b) :: prsG (b + 1) r := by
      cases r with
      | nil => rfl
      | cons c r =>
        obtain ⟨r', hr'⟩ := startsG_head (r := r) (show b + 1 ≤ c from hs'.1 c (List.mem_cons_self ..))
        rw [hr'] at ih ⊢
        rw [← ih]
        simp only [List.drop_succ_cons, List.drop_zero, List.map_cons, List.length_cons, List.cons_append, List.zip_cons_cons, Nat.add_sub_cancel]
        rw [show b + 1 - 1 = b by omega]
    rw [prsG_cons, startsG_cons]
    split
    · rename_i h
      show (f :: b :: startsG (b + 1) r).zip _ = (f, b - 1) :: (b, b) :: prsG (b + 1) r
      rw [← key]
      simp only [List.drop_succ_cons, List.drop_zero, List.map_cons, List.length_cons, List.cons_append, List.zip_cons_cons, Nat.add_sub_cancel, List.nil_append]
    · exact key
theorem spansP_eq (hz : 1 ≤ z) (pos : ∀ e ∈ es, 0 ≤ e.2) : spansP z es = spansL z es := zip_prs _ _ (lt_seen z es) (seen_pos hz pos)
def lenS (ps : List (Int × Int)) : Int := (ps.map fun p => p.2 + 1 - p.1).sum
theorem prsG_chain : ∀ (xs : List Int) (f : Int), xs.Pairwise (· < ·) → (∀ x ∈ xs, f ≤ x) → ∀ (i : Nat) p, (prsG f xs)[i]? = some p → p.1 = f + lenS ((prsG f xs).take i)
  | [], f, _, _, i, p, h => by simp [prsG] at h
  | b :: r, f, hs, hb, i, p, h => by
    have hs' := List.pairwise_cons.mp hs
    have ih := prsG_chain r (b + 1) hs'.2 (fun x hx => hs'.1 x hx)
    have hfb := hb b (List.mem_cons_self ..)
    rw [prsG_cons] at h ⊢
    split at h
    · rename_i g
      rw [if_pos g]
      match i, h with
      | 0, h => cases h; simp [lenS]
      | 1, h => cases h; simp [lenS]; omega
      | i + 2, h =>
        have := ih i p (by simpa using h)
        simp only [List.cons_append, List.nil_append, List.take_succ_cons]
        unfold lenS at this ⊢
        rw [List.map_cons, List.map_cons, List.sum_cons, List.sum_cons]
        show p.1 = f + ((b - 1 + 1 - f) + ((b + 1 - b) + _))
        omega
    · rename_i g
      rw [if_neg g]
      match i, h with
      | 0, h => cases h; simp [lenS]; omega
      | i + 1, h =>
        have := ih i p (by simpa using h)
        simp only [List.cons_append, List.nil_append, List.take_succ_cons]
        unfold lenS at this ⊢
        rw [List.map_cons, List.sum_cons]
        show p.1 = f + ((b + 1 - b) + _)
        omega
theorem prsG_whole : ∀ (xs : List Int) (f : Int), xs.Pairwise (· < ·) → (∀ x ∈ xs, f ≤ x) → lenS (prsG f xs) = match xs.getLast? with | some b => b + 1 - f | none => 0
  | [], f, _, _ => rfl
  | b :: r, f, hs, hb => by
    have hs' := List.pairwise_cons.mp hs
    have ih := prsG_whole r (b + 1) hs'.2 (fun x hx => hs'.1 x hx)
    have hfb := hb b (List.mem_cons_self ..)
    have key : lenS (prsG f (b :: r)) = b + 1 - f + lenS (prsG (b + 1) r) := by
      rw [prsG_cons]
      split
      · unfold lenS
        simp only [List.cons_append, List.nil_append, List.map_cons, List.sum_cons]
        omega
      · unfold lenS
        simp only [List.cons_append, List.nil_append, List.map_cons, List.sum_cons]
        omega
    rw [key, ih]
    cases r with
    | nil => simp
    | cons c r =>
      rw [List.getLast?_cons_cons]
      have : ((c :: r).getLast?).isSome = true := by simp
      cases hl : (c :: r).getLast? with
      | none => rw [hl] at this; cases this
      | some x =>
        show b + 1 - f + (x + 1 - (b + 1)) = x + 1 - f
        omega
theorem last_seen (hz : 1 ≤ z) (pos : ∀ e ∈ es, 0 ≤ e.2) (h : 0 ≤ topB z es) : (NbM.seen z es).getLast? = some (topB z es) := by
  rcases top_mem hz pos with ⟨_, g⟩ | ⟨_, f, hf, g⟩
  · omega
  · have h5 := (mem_seen z (topB z es) es).mpr ⟨f, hf, g⟩
    cases hl : (NbM.seen z es).getLast? with
    | none => rw [List.getLast?_eq_none_iff] at hl; rw [hl] at h5; cases h5
    | some x =>
      obtain ⟨ys, hy⟩ := List.getLast?_eq_some_iff.mp hl
      have hm := List.mem_of_getLast? hl
      obtain ⟨e, he, h3⟩ := (mem_seen z x es).mp hm
      have h4 := topB_le (z := z) he
      have h6 := lt_seen z es
      rw [hy] at h5 h6
      rcases List.mem_append.mp h5 with k | k
      · have := (List.pairwise_append.mp h6).2.2 _ k _ (List.mem_singleton.mpr rfl)
        omega
      · rw [List.mem_singleton.mp k]
theorem spans_len (hz : 1 ≤ z) (pos : ∀ e ∈ es, 0 ≤ e.2) : lenS (spansL z es) = topB z es + 1 := by
  unfold spansL
  rw [prsG_whole _ _ (lt_seen z es) (seen_pos hz pos)]
  rcases top_mem hz pos with ⟨h, g⟩ | ⟨h, _⟩
  · rw [g]
    subst h
    rfl
  · rw [last_seen hz pos h]
    show topB z es + 1 - 0 = _
    omega
theorem span_first (hz : 1 ≤ z) (pos : ∀ e ∈ es, 0 ≤ e.2) {i : Nat} (h : (spansL z es)[i]? = some p) : p.1 = lenS ((spansL z es).take i) := by
  have := prsG_chain _ _ (lt_seen z es) (seen_pos hz pos) i p h
  rw [this]
  exact Int.zero_add _
theorem lenS_step {ps : List (Int × Int)} {i : Nat} (h : ps[i]? = some p) : lenS (ps.take (i + 1)) = lenS (ps.take i) + (p.2 + 1 - p.1) := by
  rw [List.take_add_one, h]
  unfold lenS
  rw [List.map_append, List.sum_append]
  simp
end
/-! ### lists of owners -/
abbrev WRow := List (Option (Int × Int))
/-- in how many ways the rest can be taken from a slot on -/
def wayR (f : Int → Int) (s : Int) : WRow → Int
  | [] => 0
  | none :: r => wayR f s r
  | some w :: r => (if max w.1 s ≤ w.2 then f (max w.1 s) else 0) + wayR f s r
def ways : List WRow → Int → Int
  | [], _ => 1
  | row :: rest, s => wayR (ways rest) s row
theorem wayR_app (f : Int → Int) (s : Int) : ∀ a b : WRow, wayR f s (a ++ b) = wayR f s a + wayR f s b
  | [], b => by
    show wayR f s b = 0 + wayR f s b
    omega
  | none :: r, b => wayR_app f s r b
  | some w :: r, b => by
    show (if max w.1 s ≤ w.2 then f (max w.1 s) else 0) + wayR f s (r ++ b) = (if max w.1 s ≤ w.2 then f (max w.1 s) else 0) + wayR f s r + wayR f s b
    rw [wayR_app f s r b]
    omega
def winR (z : Int) (ns : List Str) (es : List En) (q : Int) : WRow := ns.map fun n => winO z es n q
def winRs (z : Int) (ns : List Str) (es : List En) (q : Int) : Nat → List WRow
  | 0 => []
  | k + 1 => winR z ns es q :: winRs z ns es (q + 1) k
theorem len_winRs (z : Int) (ns : List Str) (es : List En) : ∀ (k : Nat) (q : Int), (winRs z ns es q k).length = k
  | 0, _ => rfl
  | k + 1, q => by
    show (winRs z ns es (q + 1) k).length + 1 = k + 1
    rw [len_winRs]
theorem winRs_get (z : Int) (ns : List Str) (es : List En) : ∀ (k : Nat) (q : Int) (i : Nat), i < k → (winRs z ns es q k)[i]? = some (winR z ns es (q + i))
  | 0, _, i, h => by omega
  | k + 1, q, 0, _ => by
    show some (winR z ns es q) = some (winR z ns es (q + (0 : Nat)))
    rw [show q + ((0 : Nat) : Int) = q by omega]
  | k + 1, q, i + 1, h => by
    show (winRs z ns es (q + 1) k)[i]? = _
    rw [winRs_get z ns es k (q + 1) i (by omega), show q + 1 + (i : Int) = q + ((i + 1 : Nat) : Int) by omega]
/-- from a block on: as many as there are owners of each -/
def prodO (z : Int) (ns : List Str) (es : List En) (q : Int) : Nat → Int
  | 0 => 1
  | k + 1 => ((ownL z ns es q).length : Int) * prodO z ns es (q + 1) k
section
variable {z q s k : Int} {ns : List Str} {es : List En} {n : Str}
theorem slO_iff : (slO z ns es n q).isSome = true ↔ ∃ k, SlW z es n q k ∧ eI z ns es q ≤ k ∧ k ≤ lI z ns es q := by
  constructor
  · intro h
    cases hw : winO z es n q with
    | none =>
      unfold slO at h
      rw [hw] at h
      cases h
    | some w =>
      unfold slO at h
      rw [hw] at h
      replace h : (if max w.1 (eI z ns es q) ≤ min w.2 (lI z ns es q) then some (max w.1 (eI z ns es q), min w.2 (lI z ns es q)) else none).isSome = true := h
      split at h
      · exact ⟨max w.1 (eI z ns es q), slW_iff.mp ⟨w, hw, by omega, by omega⟩, by omega, by omega⟩
      · cases h
  · rintro ⟨k, h1, h2, h3⟩
    obtain ⟨w, hw, h4, h5⟩ := slW_iff.mpr h1
    unfold slO
    rw [hw]
    show (if max w.1 (eI z ns es q) ≤ min w.2 (lI z ns es q) then some (max w.1 (eI z ns es q), min w.2 (lI z ns es q)) else none).isSome = true
    rw [if_pos (by omega)]
    rfl
/-- where an entry of a block up to the greatest stands, no slot of this block or a lower one is behind it -/
theorem l_le_at (P : ∀ q, 0 ≤ q → q ≤ topB z es → eI z ns es q ≤ (es.length : Int)) (h0 : 0 ≤ q) {i : Nat} {e : En} (he : es[i]? = some e) (hb : q ≤ e.2 / z) : lI z ns es q ≤ (i : Int) := by
  have ht := topB_le (z := z) (List.mem_of_getElem? he)
  have hm := lI_mono P h0 hb ht
  obtain ⟨s', hs', h⟩ := inW_iff.mp (lI_in P (by omega) ht)
  have ho := h.own i e he rfl
  have := h.hi i e he ho (by omega)
  omega
/-- the slots of a step: from s on, s not below the earliest of the block before, not behind the latest of this one -/
theorem step_iff (P : ∀ q, 0 ≤ q → q ≤ topB z es → eI z ns es q ≤ (es.length : Int)) (h0 : 0 ≤ q) (h1 : q ≤ topB z es) (s0 : pI z ns es q ≤ s) (s1 : s ≤ lI z ns es q) (hn : n ∈ ns) {w : Int × Int} (hw : winO z es n q = some w) :
    (max w.1 s ≤ w.2 ∧ max w.1 s ≤ lI z ns es q) ↔ (slO z ns es n q).isSome = true := by
  have ll := lI_le P h0 h1
  constructor
  · rintro ⟨a, b⟩
    have hk : SlW z es n q (max w.1 s) := slW_iff.mp ⟨w, hw, by omega, a⟩
    refine slO_iff.mpr ⟨max w.1 s, hk, ?_, b⟩
    rw [eI_eq h0]
    exact sFrom_min (by omega) (inW_iff.mpr ⟨n, hn, hk⟩)
  · intro h
    obtain ⟨k, hk, h2, h3⟩ := slO_iff.mp h
    obtain ⟨w', hw', a, b⟩ := slW_iff.mpr hk
    rw [hw] at hw'
    cases hw'
    have hs : s ≤ w.2 := by
      obtain ⟨_, rfl⟩ := winO_hold hw
      refine (high_ge q z n s es 0 (es.length : Int)).mpr ⟨by omega, fun i e he hn' hb => ?_⟩
      have := l_le_at P h0 he (show q ≤ e.2 / z by omega)
      omega
    omega
theorem dead_iff (P : ∀ q, 0 ≤ q → q ≤ topB z es → eI z ns es q ≤ (es.length : Int)) (h0 : 0 ≤ q) (h1 : q ≤ topB z es) (hn : n ∈ ns) {w : Int × Int} (hw : winO z es n q = some w) (hk : max w.1 s ≤ w.2) :
    max w.1 s ≤ lI z ns es q ↔ (q = topB z es ∨ max w.1 s ≤ lI z ns es (q + 1)) := by
  have hs : SlW z es n q (max w.1 s) := slW_iff.mp ⟨w, hw, by omega, hk⟩
  have hi := inW_iff.mpr ⟨n, hn, hs⟩
  rcases (by omega : q = topB z es ∨ q < topB z es) with h | h
  · refine ⟨fun _ => .inl h, fun _ => ?_⟩
    rw [h] at hi ⊢
    rw [lI_top]
    exact sUpTo_max hs.k1 hi
  · have hu := lI_up P h0 h
    refine ⟨fun g => .inr (by omega), fun g => ?_⟩
    rcases g with g | g
    · omega
    · rw [lI_eq h]
      exact sUpTo_max g hi
theorem wayR_own (P : ∀ q, 0 ≤ q → q ≤ topB z es → eI z ns es q ≤ (es.length : Int)) (h0 : 0 ≤ q) (h1 : q ≤ topB z es) (s0 : pI z ns es q ≤ s) (s1 : s ≤ (es.length : Int)) {f : Int → Int} {c : Int}
    (hf : ∀ k, eI z ns es q ≤ k → k ≤ (es.length : Int) → f k = if q = topB z es ∨ k ≤ lI z ns es (q + 1) then c else 0) :
    ∀ ms : List Str, (∀ n ∈ ms, n ∈ ns) → wayR f s (ms.map fun n => winO z es n q) = if s ≤ lI z ns es q then ((ms.filter fun n => (slO z ns es n q).isSome).length : Int) * c else 0
  | [], _ => by
    show (0 : Int) = _
    split <;> simp
  | n :: r, hm => by
    have ih := wayR_own P h0 h1 s0 s1 hf r (fun x hx => hm x (List.mem_cons_of_mem _ hx))
    have hn := hm n (List.mem_cons_self ..)
    rw [List.map_cons]
    cases hw : winO z es n q with
    | none =>
      show wayR f s (r.map fun n => winO z es n q) = _
      rw [ih, List.filter_cons_of_neg (p := fun n => (slO z ns es n q).isSome)]
      unfold slO
      rw [hw]
      intro g
      cases g
    | some w =>
      show (if max w.1 s ≤ w.2 then f (max w.1 s) else 0) + wayR f s (r.map fun n => winO z es n q) = _
      rw [ih]
      by_cases hk : max w.1 s ≤ w.2
      · have hs : SlW z es n q (max w.1 s) := slW_iff.mp ⟨w, hw, by omega, hk⟩
        have he : eI z ns es q ≤ max w.1 s := by
          rw [eI_eq h0]
          exact sFrom_min (by omega) (inW_iff.mpr ⟨n, hn, hs⟩)
        rw [if_pos hk, hf _ he hs.k1]
        have hd := dead_iff P h0 h1 hn hw hk
        by_cases hl : s ≤ lI z ns es q
        · have hi := step_iff P h0 h1 s0 hl hn hw
          rw [if_pos hl, if_pos hl]
          by_cases hq : max w.1 s ≤ lI z ns es q
          · rw [if_pos (hd.mp hq), List.filter_cons_of_pos (p := fun n => (slO z ns es n q).isSome) (hi.mp ⟨hk, hq⟩), List.length_cons]
            rw [show ((((r.filter fun n => (slO z ns es n q).isSome).length + 1 : Nat)) : Int) = ((r.filter fun n => (slO z ns es n q).isSome).length : Int) + 1 by omega, Int.add_mul, Int.one_mul]
            omega
          · rw [if_neg fun g => hq (hd.mpr g), List.filter_cons_of_neg (p := fun n => (slO z ns es n q).isSome) fun g => hq (hi.mpr g).2]
            omega
        · rw [if_neg hl, if_neg hl, if_neg fun g => hl (by have := hd.mpr g; omega)]
          omega
      · rw [if_neg hk]
        by_cases hl : s ≤ lI z ns es q
        · have hi := step_iff P h0 h1 s0 hl hn hw
          rw [if_pos hl, if_pos hl, List.filter_cons_of_neg (p := fun n => (slO z ns es n q).isSome) fun g => hk (hi.mpr g).1]
          omega
        · rw [if_neg hl, if_neg hl]
          omega
theorem ways_own (P : ∀ q, 0 ≤ q → q ≤ topB z es → eI z ns es q ≤ (es.length : Int)) : ∀ (k : Nat) (q s : Int), 0 ≤ q → q + k = topB z es + 1 → pI z ns es q ≤ s → s ≤ (es.length : Int) →
    ways (winRs z ns es q k) s = if k = 0 ∨ s ≤ lI z ns es q then prodO z ns es q k else 0
  | 0, _, _, _, _, _, _ => rfl
  | k + 1, q, s, h0, hk, s0, s1 => by
    show wayR (ways (winRs z ns es (q + 1) k)) s (winR z ns es q) = _
    have h1 : q ≤ topB z es := by omega
    unfold winR
    rw [wayR_own (c := prodO z ns es (q + 1) k) P h0 h1 s0 s1 (fun j j0 j1 => ?_) ns (fun n hn => hn)]
    · show (if s ≤ lI z ns es q then ((ownL z ns es q).length : Int) * prodO z ns es (q + 1) k else 0) = _
      by_cases hl : s ≤ lI z ns es q
      · rw [if_pos hl, if_pos (.inr hl)]
        rfl
      · rw [if_neg hl, if_neg (by omega)]
    · rw [ways_own P k (q + 1) j (by omega) (by omega) (by rw [pI_succ h0]; exact j0) j1]
      rcases (by omega : q = topB z es ∧ k = 0 ∨ q ≠ topB z es ∧ k ≠ 0) with ⟨a, b⟩ | ⟨a, b⟩
      · rw [if_pos (.inl b), if_pos (.inl a)]
      · simp only [a, b, false_or]
/-- the number of lists of owners -/
def cntO (z : Int) (ns : List Str) (es : List En) : Int := prodO z ns es 0 (topB z es + 1).toNat
theorem top_ge (hz : 1 ≤ z) (pos : ∀ e ∈ es, 0 ≤ e.2) : -1 ≤ topB z es := by
  rcases top_mem hz pos with ⟨_, h⟩ | ⟨h, _⟩ <;> omega
theorem ways_all (hz : 1 ≤ z) (pos : ∀ e ∈ es, 0 ≤ e.2) (ho : obsD z ns es = .none) : ways (winRs z ns es 0 (topB z es + 1).toNat) 0 = cntO z ns es := by
  obtain ⟨_, P⟩ := (poss_iff hz pos).mp ho
  have h := top_ge hz pos
  have hl : (topB z es + 1).toNat = 0 ∨ 0 ≤ lI z ns es 0 := by
    rcases (by omega : topB z es = -1 ∨ 0 ≤ topB z es) with g | g
    · exact .inl (by omega)
    · have := e_le_l' P (Int.le_refl 0) g
      have := eI_pos (z := z) (ns := ns) (es := es) (q := 0)
      exact .inr (by omega)
  rw [ways_own P _ 0 0 (Int.le_refl _) (by omega) (by unfold pI; rw [if_pos (Int.le_refl _)]; exact Int.le_refl _) (by omega), if_pos hl]
  rfl
theorem prod_pos (P : ∀ q, 0 ≤ q → q ≤ topB z es → eI z ns es q ≤ (es.length : Int)) : ∀ (k : Nat) (q : Int), 0 ≤ q → q + k ≤ topB z es + 1 → 1 ≤ prodO z ns es q k
  | 0, _, _, _ => Int.le_refl _
  | k + 1, q, h0, h1 => by
    have ih := prod_pos P k (q + 1) (by omega) (by omega)
    have := List.length_pos_iff.mpr (own_some (z := z) (ns := ns) (es := es) P h0 (by omega))
    show 1 ≤ ((ownL z ns es q).length : Int) * prodO z ns es (q + 1) k
    have := Int.mul_le_mul (show (1 : Int) ≤ ((ownL z ns es q).length : Int) by omega) ih (by decide) (by omega)
    omega
theorem cnt_pos (hz : 1 ≤ z) (pos : ∀ e ∈ es, 0 ≤ e.2) (ho : obsD z ns es = .none) : 1 ≤ cntO z ns es := by
  obtain ⟨_, P⟩ := (poss_iff hz pos).mp ho
  have h := top_ge hz pos
  exact prod_pos P _ 0 (Int.le_refl _) (by omega)
end
/-! ### dicts of whole numbers -/
def intV : V → Int
  | .int i => i
  | _ => 0
def tot (f : Int → Int) : List (Key × V) → Int
  | [] => 0
  | (.inl s, v) :: r => intV v * f s + tot f r
  | (.inr _, _) :: r => tot f r
/-- keys from 0 to m, each once; whole numbers -/
structure IntD (m : Int) (kvs : List (Key × V)) : Prop where
  nd : (kvs.map (·.1)).Nodup
  ok : ∀ p ∈ kvs, ∃ s c : Int, p = (.inl s, .int c) ∧ 0 ≤ s ∧ s ≤ m
theorem putK_cons {p : Key × V} {r : List (Key × V)} {k : Key} {v : V} (h : ((p :: r).map (·.1)).Nodup) : putK (p :: r) k v = if p.1 = k then (p.1, v) :: r else p :: putK r k v := by
  rw [List.map_cons, List.nodup_cons] at h
  by_cases e : p.1 = k
  · rw [if_pos e]
    unfold putK
    rw [if_pos (by rw [List.any_cons, decide_eq_true e]; rfl), List.map_cons, if_pos e]
    congr 1
    refine (List.map_congr_left fun kv hkv => ?_).trans (List.map_id r)
    rw [if_neg fun g => h.1 (by rw [e, ← g]; exact List.mem_map.mpr ⟨kv, hkv, rfl⟩)]
    rfl
  · rw [if_neg e]
    unfold putK
    rw [List.any_cons, decide_eq_false e, Bool.false_or]
    split
    · rw [List.map_cons, if_neg e]
    · rfl
theorem keys_put : ∀ {kvs : List (Key × V)} {k : Key} {v : V}, (kvs.map (·.1)).Nodup → (k ∈ kvs.map (·.1) ∧ (putK kvs k v).map (·.1) = kvs.map (·.1)) ∨ (¬ k ∈ kvs.map (·.1) ∧ (putK kvs k v).map (·.1) = kvs.map (·.1) ++ [k])
  | [], k, v, _ => .inr ⟨List.not_mem_nil, rfl⟩
  | p :: r, k, v, h => by
    have h' := h
    rw [List.map_cons, List.nodup_cons] at h'
    rw [putK_cons h]
    by_cases e : p.1 = k
    · rw [if_pos e]
      exact .inl ⟨by rw [List.map_cons, e]; exact List.mem_cons_self .., rfl⟩
    · rw [if_neg e, List.map_cons, List.map_cons]
      rcases keys_put (k := k) (v := v) h'.2 with ⟨g, ih⟩ | ⟨g, ih⟩
      · exact .inl ⟨List.mem_cons_of_mem _ g, by rw [ih]⟩
      · refine .inr ⟨fun h => ?_, by rw [ih]; rfl⟩
        rcases List.mem_cons.mp h with h | h
        · exact e h.symm
        · exact g h
theorem IntD.nil {m : Int} : IntD m [] := ⟨List.nodup_nil, by simp⟩
theorem IntD.put {m : Int} {kvs : List (Key × V)} {s c : Int} (D : IntD m kvs) (h0 : 0 ≤ s) (h1 : s ≤ m) : IntD m (putK kvs (.inl s) (.int c)) := by
  refine ⟨?_, fun p hp => ?_⟩
  · rcases keys_put (k := .inl s) (v := .int c) D.nd with ⟨_, e⟩ | ⟨g, e⟩
    · rw [e]
      exact D.nd
    · rw [e]
      exact List.nodup_append.mpr ⟨D.nd, by simp, fun a ha b hb e => g (by rw [List.mem_singleton] at hb; rw [← hb, ← e]; exact ha)⟩
  · unfold putK at hp
    split at hp
    · obtain ⟨kv, hkv, rfl⟩ := List.mem_map.mp hp
      split
      · rename_i g
        rw [g]
        exact ⟨s, c, rfl, h0, h1⟩
      · exact D.ok kv hkv
    · rcases List.mem_append.mp hp with h | h
      · exact D.ok p h
      · rw [List.mem_singleton.mp h]
        exact ⟨s, c, rfl, h0, h1⟩
theorem IntD.tail {m : Int} {p : Key × V} {r : List (Key × V)} (D : IntD m (p :: r)) : IntD m r := ⟨by have := D.nd; rw [List.map_cons, List.nodup_cons] at this; exact this.2, fun x hx => D.ok x (List.mem_cons_of_mem _ hx)⟩
def oldV (o : Option V) : Int := match o with
  | some (.int c) => c
  | _ => 0
theorem tot_put {m : Int} (f : Int → Int) {s c : Int} : ∀ {kvs : List (Key × V)}, IntD m kvs → tot f (putK kvs (.inl s) (.int c)) = tot f kvs + (c - oldV (valV kvs (.inl s))) * f s
  | [], _ => by
    show c * f s + 0 = 0 + (c - 0) * f s
    simp
  | p :: r, D => by
    have ih := tot_put f (s := s) (c := c) D.tail
    obtain ⟨t, d, rfl, _, _⟩ := D.ok p (List.mem_cons_self ..)
    rw [putK_cons D.nd]
    by_cases e : (Sum.inl t : Key) = .inl s
    · rw [if_pos e, valV_pos (p := ((Sum.inl t : Key), V.int d)) e]
      obtain rfl : t = s := by injection e
      show c * f t + tot f r = d * f t + tot f r + (c - d) * f t
      rw [Int.sub_mul]
      omega
    · rw [if_neg e, valV_neg (p := ((Sum.inl t : Key), V.int d)) e]
      show d * f t + tot f (putK r (.inl s) (.int c)) = d * f t + tot f r + _
      rw [ih]
      omega
theorem tot_app (f : Int → Int) : ∀ a b : List (Key × V), tot f (a ++ b) = tot f a + tot f b
  | [], b => by
    show tot f b = 0 + tot f b
    omega
  | (.inl s, v) :: r, b => by
    show intV v * f s + tot f (r ++ b) = intV v * f s + tot f r + tot f b
    rw [tot_app f r b]
    omega
  | (.inr _, v) :: r, b => tot_app f r b
theorem valV_at {m : Int} : ∀ {kvs : List (Key × V)} {i : Nat} {k : Key} {v : V}, IntD m kvs → kvs[i]? = some (k, v) → valV kvs k = some v
  | [], i, _, _, _, h => by simp at h
  | p :: r, 0, k, v, _, h => by
    cases h
    exact valV_pos (p := (k, v)) rfl
  | p :: r, i + 1, k, v, D, h => by
    have h' : r[i]? = some (k, v) := by simpa using h
    have n := D.nd
    rw [List.map_cons, List.nodup_cons] at n
    rw [valV_neg fun e => n.1 (by rw [e]; exact List.mem_map.mpr ⟨(k, v), List.mem_of_getElem? h', rfl⟩)]
    exact valV_at D.tail h'
/-- whole numbers from 0 to m, each once: not many -/
theorem few_ints : ∀ (m : Nat) (l : List Int), l.Nodup → (∀ x ∈ l, 0 ≤ x ∧ x < m) → l.length ≤ m
  | 0, [], _, _ => Nat.le_refl _
  | 0, a :: r, _, h => by
    have := h a (List.mem_cons_self ..)
    omega
  | m + 1, l, hn, h => by
    have ih := few_ints m (l.erase (m : Int)) (hn.erase _) fun x hx => by
      have h1 := (List.Nodup.mem_erase_iff hn).mp hx
      have h2 := h x h1.2
      have h3 := h1.1
      omega
    have := List.length_erase (a := (m : Int)) (l := l)
    split at this <;> omega
theorem IntD.few {m : Nat} {kvs : List (Key × V)} (D : IntD (m : Int) kvs) : kvs.length ≤ m + 1 := by
  have h := few_ints (m + 1) (kvs.map fun p => match p.1 with | .inl s => s | .inr _ => 0) ?_ ?_
  · rw [List.length_map] at h
    exact h
  · refine List.pairwise_map.mpr ?_
    refine List.Pairwise.imp_of_mem ?_ (List.pairwise_map.mp D.nd)
    intro a b ha hb hne
    obtain ⟨s, c, rfl, _⟩ := D.ok a ha
    obtain ⟨t, d, rfl, _⟩ := D.ok b hb
    intro e
    exact hne (congrArg Sum.inl e)
  · intro x hx
    obtain ⟨p, hp, rfl⟩ := List.mem_map.mp hx
    obtain ⟨s, c, rfl, h0, h1⟩ := D.ok p hp
    exact ⟨h0, by show s < ((m + 1 : Nat) : Int); omega⟩
/-! ### the rows of owners -/
def RowsO (H : Hp) (rs : List Addr) (z : Int) (ns : List Str) (es : List En) : Prop := (rs.length : Int) = topB z es + 1 ∧ ∀ (q : Nat) r, rs[q]? = some r → H r = some (.lst ((ownL z ns es (q : Int)).map V.str))
theorem RowsO.same {H H' : Hp} {rs : List Addr} {z : Int} {ns : List Str} {es : List En} (h : RowsO H rs z ns es) (e : Same H H') : RowsO H' rs z ns es := ⟨h.1, fun q r g => e _ _ (h.2 q r g)⟩
theorem prodO_snoc (z : Int) (ns : List Str) (es : List En) : ∀ (k : Nat) (q : Int), prodO z ns es q (k + 1) = prodO z ns es q k * ((ownL z ns es (q + k)).length : Int)
  | 0, q => by
    show ((ownL z ns es q).length : Int) * 1 = 1 * ((ownL z ns es (q + (0 : Nat))).length : Int)
    rw [show q + ((0 : Nat) : Int) = q by omega]
    omega
  | k + 1, q => by
    have ih := prodO_snoc z ns es k (q + 1)
    show ((ownL z ns es q).length : Int) * prodO z ns es (q + 1) (k + 1) = ((ownL z ns es q).length : Int) * prodO z ns es (q + 1) k * ((ownL z ns es (q + ((k + 1 : Nat) : Int))).length : Int)
    rw [ih, Int.mul_assoc, show q + 1 + (k : Int) = q + ((k + 1 : Nat) : Int) by omega]
theorem own_len {z q : Int} {ns : List Str} {es : List En} : (ownL z ns es q).length ≤ ns.length := List.length_filter_le _ _
theorem prodO_bd {z : Int} {ns : List Str} {es : List En} (h : ns.length ≤ 12) : ∀ (k : Nat) (q : Int), 0 ≤ prodO z ns es q k ∧ prodO z ns es q k ≤ 12 ^ k
  | 0, _ => ⟨by show (0 : Int) ≤ 1; decide, Int.le_refl _⟩
  | k + 1, q => by
    have ih := prodO_bd (z := z) (es := es) h k (q + 1)
    have l := own_len (z := z) (q := q) (ns := ns) (es := es)
    have e : (12 : Int) ^ (k + 1) = 12 * 12 ^ k := by rw [Int.pow_succ, Int.mul_comm]
    show 0 ≤ ((ownL z ns es q).length : Int) * prodO z ns es (q + 1) k ∧ ((ownL z ns es q).length : Int) * prodO z ns es (q + 1) k ≤ 12 ^ (k + 1)
    rw [e]
    exact ⟨Int.mul_nonneg (by omega) ih.1, Int.mul_le_mul (by omega) ih.2 ih.1 (by decide)⟩
theorem pow12 {k : Nat} (h : k ≤ 201) : (12 : Int) ^ k ≤ 12 ^ 201 := by
  have e : (12 : Int) ^ 201 = 12 ^ k * 12 ^ (201 - k) := by rw [← Int.pow_add, show k + (201 - k) = 201 by omega]
  rw [e]
  have h1 : (1 : Int) ≤ 12 ^ (201 - k) := Int.pow_pos (by decide)
  have h2 : (0 : Int) ≤ 12 ^ k := Int.le_of_lt (Int.pow_pos (by decide))
  have := Int.mul_le_mul_of_nonneg_left h1 h2
  omega
set_option exponentiation.threshold 3000 in
theorem mul12 {i j : Int} (h0 : 0 ≤ i) (h1 : i ≤ 12 ^ 201) (g0 : 0 ≤ j) (g1 : j ≤ 1000) : CMulW i j :=
  wide_mul (a := 800) (b := 20) (Nat.lt_of_le_of_lt (show i.natAbs ≤ 12 ^ 201 by omega) (by decide +kernel)) (Nat.lt_of_le_of_lt (show j.natAbs ≤ 1000 by omega) (by decide)) (by decide) (by decide) (by decide)
set_option exponentiation.threshold 3000 in
theorem log12 {i : Int} (h0 : 0 ≤ i) (h1 : i ≤ 12 ^ 201) : i.natAbs.log2 < 1920 := by
  by_cases e : i.natAbs = 0
  · rw [e]
    decide
  · exact Nat.lt_of_lt_of_le ((Nat.log2_lt e).mpr (Nat.lt_of_le_of_lt (show i.natAbs ≤ 12 ^ 201 by omega) (by decide +kernel : (12 : Nat) ^ 201 < 2 ^ 800))) (by decide)
theorem cnt_bd {z : Int} {ns : List Str} {es : List En} (h : ns.length ≤ 12) (ht : topB z es ≤ 200) : 0 ≤ cntO z ns es ∧ cntO z ns es ≤ 12 ^ 201 := by
  have b := prodO_bd (z := z) (es := es) h (topB z es + 1).toNat 0
  exact ⟨b.1, Int.le_trans b.2 (pow12 (by omega))⟩
def sp_owners_by_block (K : PySem.W.Frag) : Sp := fun vs H Q _ => ∃ p b z ns es, vs = [.ref p] ∧ LogAt K H p b z ns es ∧ topB z es ≤ 200 ∧ obsD z ns es = .none ∧ ∀ a rs H', H a = none → Same H H' → H' a = some (.lst (rs.map V.ref)) → RowsO H' rs z ns es → Q (.ref a) H'
def sp_count_rows (_ : PySem.W.Frag) : Sp := fun vs H Q _ => ∃ (a : Addr) (rs : List Addr) (z : Int) (ns : List Str) (es : List En), vs = [.ref a] ∧ H a = some (.lst (rs.map V.ref)) ∧ RowsO H rs z ns es ∧ topB z es ≤ 200 ∧ ns.length ≤ 12 ∧ ∀ H', Same H H' → Q (.int (cntO z ns es)) H'
def sp_count_lists (K : PySem.W.Frag) : Sp := fun vs H Q _ => ∃ p b z ns es, vs = [.ref p] ∧ LogAt K H p b z ns es ∧ topB z es ≤ 200 ∧ obsD z ns es = .none ∧ ∀ H', Same H H' → Q (.int (cntO z ns es)) H'
end NbAa

set_option Elab.async false
set_option linter.all false
set_option maxRecDepth 100000
set_option maxHeartbeats 4000000
/-! Lists of owners by their numbers; logs with an entry less, servers in another sequence, one more server, blocks ahead: who owns what. -/
namespace NbAb
open PySem PySem.Spec PyProof.Rows L2 Nb NbE NbS NbF NbP NbK NbL NbX NbW NbZ NbM NbQ NbC NbG NbH NbI NbJ NbO NbA NbD NbN NbAa
/-! ### numbers with a digit for each row; the last row first -/
abbrev OwnR := List (List Str)
def lenP : OwnR → Int
  | [] => 1
  | o :: r => (o.length : Int) * lenP r
def nthR : OwnR → Int → List Str
  | [], _ => []
  | o :: r, i => o.getD (i % (o.length : Int)).toNat "" :: nthR r (i / (o.length : Int))
def idxR : OwnR → List Str → Int
  | o :: r, x :: xs => idxR r xs * (o.length : Int) + (o.idxOf x : Int)
  | _, _ => 0
def validR : OwnR → List Str → Prop
  | [], [] => True
  | o :: r, x :: xs => x ∈ o ∧ validR r xs
  | _, _ => False
def goodR (rs : OwnR) : Prop := ∀ o ∈ rs, o ≠ [] ∧ o.Nodup
theorem goodR.tail {o : List Str} {r : OwnR} (h : goodR (o :: r)) : goodR r := fun x hx => h x (List.mem_cons_of_mem _ hx)
theorem goodR.len {o : List Str} {r : OwnR} (h : goodR (o :: r)) : 0 < (o.length : Int) := by
  have := List.length_pos_iff.mpr (h o (List.mem_cons_self ..)).1
  omega
theorem lenP_pos : ∀ {rs : OwnR}, goodR rs → 1 ≤ lenP rs
  | [], _ => Int.le_refl _
  | o :: r, h => by
    have h1 := lenP_pos h.tail
    have h2 := h.len
    have := Int.mul_le_mul (show (1 : Int) ≤ (o.length : Int) by omega) h1 (by decide) (by omega)
    show 1 ≤ (o.length : Int) * lenP r
    omega
theorem nthR_len : ∀ (rs : OwnR) (i : Int), (nthR rs i).length = rs.length
  | [], _ => rfl
  | o :: r, i => by
    show (nthR r _).length + 1 = r.length + 1
    rw [nthR_len]
theorem getD_in {o : List Str} {k : Nat} (h : k < o.length) : o.getD k "" ∈ o := by
  rw [List.getD_eq_getElem?_getD, List.getElem?_eq_getElem h]
  exact List.getElem_mem h
theorem nthR_valid : ∀ {rs : OwnR} (i : Int), goodR rs → validR rs (nthR rs i)
  | [], _, _ => trivial
  | o :: r, i, h => by
    refine ⟨getD_in ?_, nthR_valid _ h.tail⟩
    have h1 := Int.emod_nonneg i (show (o.length : Int) ≠ 0 by have := h.len; omega)
    have h2 := Int.emod_lt_of_pos i h.len
    omega
theorem idxOf_getD {o : List Str} {k : Nat} (hn : o.Nodup) (h : k < o.length) : o.idxOf (o.getD k "") = k := by
  rw [List.getD_eq_getElem?_getD, List.getElem?_eq_getElem h]
  exact hn.idxOf_getElem k h
theorem idx_nth : ∀ {rs : OwnR} {i : Int}, goodR rs → 0 ≤ i → i < lenP rs → idxR rs (nthR rs i) = i
  | [], i, _, h0, h1 => by
    show (0 : Int) = i
    have : i < 1 := h1
    omega
  | o :: r, i, h, h0, h1 => by
    have hl := h.len
    have m0 := Int.emod_nonneg i (show (o.length : Int) ≠ 0 by omega)
    have m1 := Int.emod_lt_of_pos i hl
    have d0 := Int.ediv_nonneg h0 (Int.le_of_lt hl)
    have d1 : i / (o.length : Int) < lenP r := Int.ediv_lt_of_lt_mul hl (by rw [Int.mul_comm]; exact h1)
    show idxR r (nthR r (i / (o.length : Int))) * (o.length : Int) + ((o.idxOf (o.getD (i % (o.length : Int)).toNat "") : Nat) : Int) = i
    rw [idx_nth h.tail d0 d1, idxOf_getD (h o (List.mem_cons_self ..)).2 (by omega)]
    have := Int.ediv_mul_add_emod i (o.length : Int)
    omega
theorem idx_bd : ∀ {rs : OwnR} {xs : List Str}, goodR rs → validR rs xs → 0 ≤ idxR rs xs ∧ idxR rs xs < lenP rs
  | [], [], _, _ => ⟨Int.le_refl _, by show (0 : Int) < 1; decide⟩
  | o :: r, x :: xs, h, hv => by
    have ih := idx_bd h.tail hv.2
    have hi := List.idxOf_lt_length_of_mem hv.1
    have hl := h.len
    show 0 ≤ idxR r xs * (o.length : Int) + (o.idxOf x : Int) ∧ idxR r xs * (o.length : Int) + (o.idxOf x : Int) < (o.length : Int) * lenP r
    have h1 := Int.mul_nonneg ih.1 (Int.le_of_lt hl)
    have h2 := Int.mul_le_mul_of_nonneg_right (show idxR r xs + 1 ≤ lenP r by omega) (Int.le_of_lt hl)
    rw [Int.add_mul, Int.one_mul, Int.mul_comm (lenP r)] at h2
    omega
  | [], _ :: _, _, hv => hv.elim
  | _ :: _, [], _, hv => hv.elim
theorem at_idx {x : Str} : ∀ {o : List Str}, x ∈ o → o[o.idxOf x]? = some x
  | [], h => by cases h
  | a :: r, h => by
    rw [List.idxOf_cons]
    by_cases e : a = x
    · subst e
      simp
    · have h' : x ∈ r := by
        rcases List.mem_cons.mp h with h | h
        · exact absurd h.symm e
        · exact h
      have eb : (a == x) = false := by simpa using e
      rw [eb]
      show (a :: r)[r.idxOf x + 1]? = some x
      rw [List.getElem?_cons_succ]
      exact at_idx h'
theorem nth_idx : ∀ {rs : OwnR} {xs : List Str}, goodR rs → validR rs xs → nthR rs (idxR rs xs) = xs
  | [], [], _, _ => rfl
  | o :: r, x :: xs, h, hv => by
    have hi := List.idxOf_lt_length_of_mem hv.1
    have hl := h.len
    have e1 : (idxR r xs * (o.length : Int) + (o.idxOf x : Int)) % (o.length : Int) = (o.idxOf x : Int) := by
      rw [Int.add_comm, Int.add_mul_emod_self_right]
      exact Int.emod_eq_of_lt (by omega) (by omega)
    have e2 : (idxR r xs * (o.length : Int) + (o.idxOf x : Int)) / (o.length : Int) = idxR r xs := by
      rw [Int.add_comm, Int.add_mul_ediv_right _ _ (by omega), Int.ediv_eq_zero_of_lt (by omega) (by omega)]
      omega
    show o.getD ((idxR r xs * (o.length : Int) + (o.idxOf x : Int)) % (o.length : Int)).toNat "" :: nthR r ((idxR r xs * (o.length : Int) + (o.idxOf x : Int)) / (o.length : Int)) = x :: xs
    rw [e1, e2, nth_idx h.tail hv.2, Int.toNat_natCast, List.getD_eq_getElem?_getD, at_idx hv.1]
    rfl
  | [], _ :: _, _, hv => hv.elim
  | _ :: _, [], _, hv => hv.elim
/-- the last list: the last of each row -/
theorem nth_last : ∀ {rs : OwnR}, goodR rs → nthR (rs.map List.reverse) 0 = nthR rs (lenP rs - 1)
  | [], _ => rfl
  | o :: r, h => by
    have hl := h.len
    have hp := lenP_pos h.tail
    have ih := nth_last h.tail
    have hk : (o.length : Int) * lenP r - 1 = (lenP r - 1) * (o.length : Int) + ((o.length : Int) - 1) := by
      rw [Int.sub_mul, Int.one_mul, Int.mul_comm]
      omega
    have e1 : ((o.length : Int) * lenP r - 1) % (o.length : Int) = (o.length : Int) - 1 := by
      rw [hk, Int.add_comm, Int.add_mul_emod_self_right]
      exact Int.emod_eq_of_lt (by omega) (by omega)
    have e2 : ((o.length : Int) * lenP r - 1) / (o.length : Int) = lenP r - 1 := by
      rw [hk, Int.add_comm, Int.add_mul_ediv_right _ _ (by omega), Int.ediv_eq_zero_of_lt (by omega) (by omega)]
      omega
    show o.reverse.getD ((0 : Int) % ((o.reverse.length : Nat) : Int)).toNat "" :: nthR (r.map List.reverse) ((0 : Int) / ((o.reverse.length : Nat) : Int)) = o.getD (((o.length : Int) * lenP r - 1) % (o.length : Int)).toNat "" :: nthR r (((o.length : Int) * lenP r - 1) / (o.length : Int))
    rw [e1, e2, Int.zero_emod, Int.zero_ediv, ih, List.getD_eq_getElem?_getD, List.getD_eq_getElem?_getD]
    congr 2
    rw [List.getElem?_reverse (by simp; omega)]
    congr 1
    show o.length - 1 - (0 : Int).toNat = _
    have : (0 : Int).toNat = 0 := rfl
    omega
theorem idx_app : ∀ {as bs : OwnR} {xs ys : List Str}, as.length = xs.length → idxR (as ++ bs) (xs ++ ys) = idxR bs ys * lenP as + idxR as xs
  | [], bs, [], ys, _ => by
    show idxR bs ys = idxR bs ys * 1 + 0
    omega
  | o :: r, bs, x :: xs, ys, h => by
    have ih := idx_app (as := r) (bs := bs) (xs := xs) (ys := ys) (by simpa using h)
    show idxR (r ++ bs) (xs ++ ys) * (o.length : Int) + (o.idxOf x : Int) = idxR bs ys * ((o.length : Int) * lenP r) + (idxR r xs * (o.length : Int) + (o.idxOf x : Int))
    rw [ih, Int.add_mul, Int.mul_assoc, Int.mul_comm (lenP r)]
    omega
  | [], _, _ :: _, _, h => by simp at h
  | _ :: _, _, [], _, h => by simp at h
theorem valid_app : ∀ {as bs : OwnR} {xs ys : List Str}, validR as xs → validR bs ys → validR (as ++ bs) (xs ++ ys)
  | [], _, [], _, _, h => h
  | _ :: _, _, _ :: _, _, h, k => ⟨h.1, valid_app h.2 k⟩
  | [], _, _ :: _, _, h, _ => h.elim
  | _ :: _, _, [], _, h, _ => h.elim
theorem lenP_app : ∀ as bs : OwnR, lenP (as ++ bs) = lenP as * lenP bs
  | [], bs => by
    show lenP bs = 1 * lenP bs
    omega
  | o :: r, bs => by
    show (o.length : Int) * lenP (r ++ bs) = (o.length : Int) * lenP r * lenP bs
    rw [lenP_app r bs, Int.mul_assoc]
theorem valid_len : ∀ {rs : OwnR} {xs : List Str}, validR rs xs → xs.length = rs.length
  | [], [], _ => rfl
  | _ :: _, _ :: _, h => by
    show _ + 1 = _ + 1
    rw [valid_len h.2]
  | [], _ :: _, h => h.elim
  | _ :: _, [], h => h.elim
theorem valid_sub : ∀ {as bs : OwnR} {xs : List Str}, as.length = bs.length → (∀ (i : Nat) a b, as[i]? = some a → bs[i]? = some b → ∀ x ∈ a, x ∈ b) → validR as xs → validR bs xs
  | [], [], [], _, _, _ => trivial
  | a :: as, b :: bs, x :: xs, hl, h, hv => ⟨h 0 a b rfl rfl x hv.1, valid_sub (by simpa using hl) (fun i a b h1 h2 => h (i + 1) a b (by simpa using h1) (by simpa using h2)) hv.2⟩
  | [], _ :: _, _, hl, _, _ => by simp at hl
  | _ :: _, [], _, hl, _, _ => by simp at hl
  | [], [], _ :: _, _, _, hv => hv.elim
  | _ :: _, _ :: _, [], _, _, hv => hv.elim
/-! ### the rows of a log -/
def rowsO (z : Int) (ns : List Str) (es : List En) : OwnR := (List.range (topB z es + 1).toNat).map fun (q : Nat) => ownL z ns es (q : Int)
def nthO (z : Int) (ns : List Str) (es : List En) (i : Int) : List Str := (nthR (rowsO z ns es).reverse i).reverse
def idxO (z : Int) (ns : List Str) (es : List En) (xs : List Str) : Int := idxR (rowsO z ns es).reverse xs.reverse
def validO (z : Int) (ns : List Str) (es : List En) (xs : List Str) : Prop := validR (rowsO z ns es).reverse xs.reverse
theorem rowsO_len {z : Int} {ns : List Str} {es : List En} : (rowsO z ns es).length = (topB z es + 1).toNat := by
  unfold rowsO
  rw [List.length_map, List.length_range]
theorem rowsO_get {z : Int} {ns : List Str} {es : List En} {q : Nat} (h : q < (topB z es + 1).toNat) : (rowsO z ns es)[q]? = some (ownL z ns es (q : Int)) := by
  unfold rowsO
  rw [List.getElem?_map, List.getElem?_range h]
  rfl
theorem lenP_rev : ∀ as : OwnR, lenP as.reverse = lenP as
  | [] => rfl
  | o :: r => by
    rw [List.reverse_cons, lenP_app, lenP_rev r]
    show lenP r * ((o.length : Int) * 1) = (o.length : Int) * lenP r
    rw [Int.mul_one, Int.mul_comm]
theorem lenP_prod {z : Int} {ns : List Str} {es : List En} : ∀ k : Nat, lenP ((List.range k).map fun (q : Nat) => ownL z ns es (q : Int)) = prodO z ns es 0 k
  | 0 => rfl
  | k + 1 => by
    rw [List.range_succ, List.map_append, lenP_app, lenP_prod k, prodO_snoc, show (0 : Int) + (k : Int) = k by omega]
    show _ * ((ownL z ns es (k : Int)).length * (1 : Int)) = _
    rw [Int.mul_one]
theorem lenP_rows {z : Int} {ns : List Str} {es : List En} : lenP (rowsO z ns es).reverse = cntO z ns es := by
  rw [lenP_rev]
  exact lenP_prod _
theorem own_nodup {z q : Int} {ns : List Str} {es : List En} (h : ns.Nodup) : (ownL z ns es q).Nodup := h.filter _
section
variable {z : Int} {ns : List Str} {es : List En}
theorem good_rows (hz : 1 ≤ z) (pos : ∀ e ∈ es, 0 ≤ e.2) (ho : obsD z ns es = .none) (hn : ns.Nodup) : goodR (rowsO z ns es).reverse := fun o hm => by
  obtain ⟨_, P⟩ := (poss_iff hz pos).mp ho
  obtain ⟨q, hq, rfl⟩ := List.mem_map.mp (List.mem_reverse.mp hm)
  have := List.mem_range.mp hq
  exact ⟨own_some P (by omega) (by omega), own_nodup hn⟩
end
/-! ### slots of alike logs -/
section
variable {z q k : Int} {ns ms : List Str} {es : List En} {n : Str}
theorem slO_some_iff : (slO z ns es n q).isSome = true ↔ ∃ k, SlW z es n q k ∧ eI z ns es q ≤ k ∧ k ≤ lI z ns es q := slO_iff
/-- servers in another sequence -/
theorem eI_perm (h : ∀ s, s ∈ ns ↔ s ∈ ms) : eI z ns es q = eI z ms es q := eI_congr rfl (fun q _ k => by
  rw [inW_iff, inW_iff]
  exact ⟨fun ⟨s, a, b⟩ => ⟨s, (h s).mp a, b⟩, fun ⟨s, a, b⟩ => ⟨s, (h s).mpr a, b⟩⟩) _
theorem lI_perm (h : ∀ s, s ∈ ns ↔ s ∈ ms) : lI z ns es q = lI z ms es q := lI_congr rfl rfl (fun q k => by
  rw [inW_iff, inW_iff]
  exact ⟨fun ⟨s, a, b⟩ => ⟨s, (h s).mp a, b⟩, fun ⟨s, a, b⟩ => ⟨s, (h s).mpr a, b⟩⟩) _
theorem slO_perm (h : ∀ s, s ∈ ns ↔ s ∈ ms) : slO z ns es n q = slO z ms es n q := by
  unfold slO
  rw [eI_perm h, lI_perm h]
theorem mem_rev (ns : List Str) (s : Str) : s ∈ ns.reverse ↔ s ∈ ns := List.mem_reverse
theorem own_rev : ownL z ns.reverse es q = (ownL z ns es q).reverse := by
  unfold ownL
  rw [List.filter_reverse]
  congr 1
  refine List.filter_congr fun n _ => ?_
  rw [slO_perm (mem_rev ns)]
theorem poss_rev (hz : 1 ≤ z) (pos : ∀ e ∈ es, 0 ≤ e.2) (ho : obsD z ns es = .none) : obsD z ns.reverse es = .none := (poss_more hz pos (fun s hs => List.mem_reverse.mpr hs) ho).1
theorem rows_rev : rowsO z ns.reverse es = (rowsO z ns es).map List.reverse := by
  unfold rowsO
  rw [List.map_map]
  refine List.map_congr_left fun q _ => ?_
  exact own_rev
theorem lenP_mrev : ∀ rs : OwnR, lenP (rs.map List.reverse) = lenP rs
  | [] => rfl
  | o :: r => by
    show (o.reverse.length : Int) * lenP (r.map List.reverse) = (o.length : Int) * lenP r
    rw [lenP_mrev r, List.length_reverse]
theorem cnt_rev : cntO z ns.reverse es = cntO z ns es := by
  rw [← lenP_rows, ← lenP_rows, lenP_rev, lenP_rev, rows_rev, lenP_mrev]
theorem nth_rev (hg : goodR (rowsO z ns es).reverse) : nthO z ns.reverse es 0 = nthO z ns es (cntO z ns es - 1) := by
  unfold nthO
  rw [rows_rev, ← List.map_reverse, nth_last hg, lenP_rows]
/-- more servers -/
theorem slO_more (hz : 1 ≤ z) (pos : ∀ e ∈ es, 0 ≤ e.2) (h : ∀ s ∈ ns, s ∈ ms) (ho : obsD z ns es = .none) (h0 : 0 ≤ q) (h1 : q ≤ topB z es) (hs : (slO z ns es n q).isSome = true) : (slO z ms es n q).isSome = true := by
  obtain ⟨k, a, b, c⟩ := slO_iff.mp hs
  obtain ⟨d, e⟩ := (poss_more hz pos h ho).2 q h0 h1
  exact slO_iff.mpr ⟨k, a, by omega, by omega⟩
theorem own_more (hz : 1 ≤ z) (pos : ∀ e ∈ es, 0 ≤ e.2) (h : ∀ s ∈ ns, s ∈ ms) (ho : obsD z ns es = .none) (h0 : 0 ≤ q) (h1 : q ≤ topB z es) : ∀ s ∈ ownL z ns es q, s ∈ ownL z ms es q := fun s hs => by
  obtain ⟨a, b⟩ := List.mem_filter.mp hs
  exact List.mem_filter.mpr ⟨h s a, slO_more hz pos h ho h0 h1 b⟩
theorem filt_le {α : Type} {p r : α → Bool} : ∀ {l : List α}, (∀ x ∈ l, p x = true → r x = true) → (l.filter p).length ≤ (l.filter r).length
  | [], _ => Nat.le_refl _
  | a :: l, h => by
    have ih := filt_le (l := l) fun x hx => h x (List.mem_cons_of_mem _ hx)
    by_cases hp : p a = true
    · rw [List.filter_cons_of_pos hp, List.filter_cons_of_pos (h a (List.mem_cons_self ..) hp), List.length_cons, List.length_cons]
      omega
    · rw [List.filter_cons_of_neg hp]
      by_cases hr : r a = true
      · rw [List.filter_cons_of_pos hr, List.length_cons]
        omega
      · rw [List.filter_cons_of_neg hr]
        exact ih
theorem prodO_le {z z' : Int} {ns ns' : List Str} {es es' : List En} : ∀ (k : Nat) (q : Int), (∀ x, q ≤ x → x < q + k → (ownL z ns es x).length ≤ (ownL z' ns' es' x).length) → prodO z ns es q k ≤ prodO z' ns' es' q k ∧ 0 ≤ prodO z ns es q k
  | 0, _, _ => ⟨Int.le_refl _, by show (0 : Int) ≤ 1; decide⟩
  | k + 1, q, h => by
    obtain ⟨a, b⟩ := prodO_le k (q + 1) fun x h1 h2 => h x (by omega) (by omega)
    have c := h q (Int.le_refl _) (by omega)
    show ((ownL z ns es q).length : Int) * prodO z ns es (q + 1) k ≤ ((ownL z' ns' es' q).length : Int) * prodO z' ns' es' (q + 1) k ∧ _
    exact ⟨Int.mul_le_mul (by omega) a b (by omega), Int.mul_nonneg (by omega) b⟩
theorem cnt_more (hz : 1 ≤ z) (pos : ∀ e ∈ es, 0 ≤ e.2) (x : Str) (ho : obsD z ns es = .none) : cntO z ns es ≤ cntO z (ns ++ [x]) es := by
  refine (prodO_le _ 0 fun q h0 h1 => ?_).1
  have ht := top_ge hz pos
  unfold ownL
  rw [List.filter_append, List.length_append]
  have := filt_le (l := ns) (p := fun n => (slO z ns es n q).isSome) (r := fun n => (slO z (ns ++ [x]) es n q).isSome) fun n hn hs => slO_more hz pos (fun s hs => List.mem_append_left _ hs) ho h0 (by omega) hs
  omega
/-- some entries left out -/
theorem slW_keep {fl : List Bool} (hl : fl.length = es.length) (h : SlW z es n q k) : SlW z (NbQ.keep fl es) n q (cnt fl k.toNat : Int) := by
  have k0 := h.k0
  refine ⟨by omega, ?_, fun i e hi hq => ?_, fun i e hi hn hq => ?_, fun i e hi hn hq => ?_⟩
  · have := cnt_mono fl (show k.toNat ≤ es.length by have := h.k1; omega)
    rw [keep_len hl (Nat.le_refl _)] at this
    omega
  · obtain ⟨j, g1, _, _⟩ := keep_get hi
    exact h.own j e g1 hq
  · obtain ⟨j, g1, g2, g3⟩ := keep_get hi
    have := h.lo j e g1 hn hq
    have := cnt_lt (fl := fl) (show j < k.toNat by omega) g2
    omega
  · obtain ⟨j, g1, g2, g3⟩ := keep_get hi
    have := h.hi j e g1 hn hq
    have := cnt_mono fl (show k.toNat ≤ j by omega)
    omega
theorem inW_keep {fl : List Bool} (hl : fl.length = es.length) (h : InW z ns es q k) : InW z ns (NbQ.keep fl es) q (cnt fl k.toNat : Int) := by
  obtain ⟨s, hs, h⟩ := inW_iff.mp h
  exact inW_iff.mpr ⟨s, hs, slW_keep hl h⟩
theorem el_keep {fl : List Bool} (hl : fl.length = es.length) (P : ∀ q, 0 ≤ q → q ≤ topB z es → eI z ns es q ≤ (es.length : Int)) (ht : topB z (NbQ.keep fl es) ≤ topB z es) (h0 : 0 ≤ q) (h1 : q ≤ topB z (NbQ.keep fl es)) :
    eI z ns (NbQ.keep fl es) q ≤ (cnt fl (eI z ns es q).toNat : Int) ∧ (cnt fl (lI z ns es q).toNat : Int) ≤ lI z ns (NbQ.keep fl es) q := by
  constructor
  · refine e_least' (g := fun q => (cnt fl (eI z ns es q).toNat : Int)) (f := q) (by omega) (fun x x0 x1 => ?_) (fun x x0 x1 => inW_keep hl (eI_in P x0 (by omega))) h0 (Int.le_refl _)
    have a := eI_up (z := z) (ns := ns) (es := es) x0
    have b := eI_pos (z := z) (ns := ns) (es := es) (q := x)
    have := cnt_mono fl (show (eI z ns es x).toNat ≤ (eI z ns es (x + 1)).toNat by omega)
    show ((cnt fl (eI z ns es x).toNat : Nat) : Int) ≤ ((cnt fl (eI z ns es (x + 1)).toNat : Nat) : Int)
    omega
  · refine l_most' (g := fun q => (cnt fl (lI z ns es q).toNat : Int)) (fun x x0 x1 => ?_) (fun x x0 x1 => inW_keep hl (lI_in P x0 (by omega))) h0 h1
    have a := lI_up P x0 (show x < topB z es by omega)
    have := cnt_mono fl (show (lI z ns es x).toNat ≤ (lI z ns es (x + 1)).toNat by omega)
    show ((cnt fl (lI z ns es x).toNat : Nat) : Int) ≤ ((cnt fl (lI z ns es (x + 1)).toNat : Nat) : Int)
    omega
theorem slO_keep {fl : List Bool} (hl : fl.length = es.length) (P : ∀ q, 0 ≤ q → q ≤ topB z es → eI z ns es q ≤ (es.length : Int)) (ht : topB z (NbQ.keep fl es) ≤ topB z es) (h0 : 0 ≤ q) (h1 : q ≤ topB z (NbQ.keep fl es)) (hs : (slO z ns es n q).isSome = true) : (slO z ns (NbQ.keep fl es) n q).isSome = true := by
  obtain ⟨k, a, b, c⟩ := slO_iff.mp hs
  obtain ⟨d, e⟩ := el_keep hl P ht h0 h1
  have ep := eI_pos (z := z) (ns := ns) (es := es) (q := q)
  have m1 := cnt_mono fl (show (eI z ns es q).toNat ≤ k.toNat by omega)
  have m2 := cnt_mono fl (show k.toNat ≤ (lI z ns es q).toNat by omega)
  exact slO_iff.mpr ⟨_, slW_keep hl a, by omega, by omega⟩
theorem cnt_keep {fl : List Bool} (hl : fl.length = es.length) (P : ∀ q, 0 ≤ q → q ≤ topB z es → eI z ns es q ≤ (es.length : Int)) (ht : topB z (NbQ.keep fl es) = topB z es) : cntO z ns es ≤ cntO z ns (NbQ.keep fl es) := by
  unfold cntO
  rw [ht]
  exact (prodO_le _ 0 fun q h0 h1 => filt_le fun n _ hs => slO_keep hl P (by omega) h0 (by omega) hs).1
theorem keep_sub {α : Type} : ∀ {fl : List Bool} {es : List α} {e : α}, e ∈ NbQ.keep fl es → e ∈ es
  | [], es, e, h => by cases es <;> cases h
  | b :: fl, [], e, h => by cases h
  | b :: fl, x :: es, e, h => by
    unfold NbQ.keep at h
    split at h
    · rcases List.mem_cons.mp h with rfl | h
      · exact List.mem_cons_self ..
      · exact List.mem_cons_of_mem _ (keep_sub h)
    · exact List.mem_cons_of_mem _ (keep_sub h)
theorem top_keep {fl : List Bool} (hz : 1 ≤ z) (pos : ∀ e ∈ es, 0 ≤ e.2) : topB z (NbQ.keep fl es) ≤ topB z es := by
  have := top_ge hz pos
  rcases top_mem (es := NbQ.keep fl es) hz (fun e he => pos e (keep_sub he)) with ⟨_, h⟩ | ⟨_, e, he, h⟩
  · omega
  · rw [← h]
    exact topB_le (keep_sub he)
/-- an entry left out -/
def dropF (n i : Nat) : List Bool := List.replicate i true ++ false :: List.replicate (n - i - 1) true
theorem dropF_len {n i : Nat} (h : i < n) : (dropF n i).length = n := by
  unfold dropF
  rw [List.length_append, List.length_replicate, List.length_cons, List.length_replicate]
  omega
theorem keep_true {α : Type} : ∀ (es : List α), NbQ.keep (List.replicate es.length true) es = es
  | [] => rfl
  | e :: es => by
    show (if true = true then e :: NbQ.keep (List.replicate es.length true) es else _) = _
    rw [if_pos rfl, keep_true es]
theorem keep_drop {α : Type} : ∀ (es : List α) (i : Nat), i < es.length → NbQ.keep (dropF es.length i) es = es.take i ++ es.drop (i + 1)
  | [], i, h => by simp at h
  | e :: es, 0, h => by
    show (if false = true then _ else NbQ.keep (List.replicate (es.length + 1 - 0 - 1) true) es) = _
    rw [if_neg (by decide), show es.length + 1 - 0 - 1 = es.length by omega, keep_true]
    rfl
  | e :: es, i + 1, h => by
    have ih := keep_drop es i (by simpa using h)
    have e1 : dropF (e :: es).length (i + 1) = true :: dropF es.length i := by
      unfold dropF
      rw [List.length_cons, List.replicate_succ, show es.length + 1 - (i + 1) - 1 = es.length - i - 1 by omega]
      rfl
    rw [e1]
    show (if true = true then e :: NbQ.keep (dropF es.length i) es else _) = _
    rw [if_pos rfl, ih]
    rfl
end
/-! ### all blocks some later -/
section
variable {z q : Int} {ns : List Str} {es : List En} {b : Nat}
def later (z : Int) (b : Nat) (es : List En) : List En := es.map (addE ((b : Int) * z))
theorem own_later (hz : 1 ≤ z) (hns : ns ≠ []) (pos : ∀ e ∈ es, 0 ≤ e.2) (hne : es ≠ []) (h0 : 0 ≤ q) (h1 : q ≤ topB z es) : ownL z ns (later z b es) (q + b) = ownL z ns es q := by
  have A := alike_add (z := z) (s := (b : Int)) hz
  have bz : 0 ≤ (b : Int) * z := Int.mul_nonneg (by omega) (by omega)
  have pos' : ∀ e ∈ es.map (addE ((b : Int) * z)), 0 ≤ e.2 := fun e he => by
    obtain ⟨e', he', rfl⟩ := List.mem_map.mp he
    have := pos e' he'
    show 0 ≤ e'.2 + (b : Int) * z
    omega
  have pd : ∀ e ∈ es, 0 ≤ e.2 / z := fun e he => Int.ediv_nonneg (pos e he) (by omega)
  unfold ownL later
  refine List.filter_congr fun n _ => ?_
  unfold slO
  rw [A.winO, A.eI' hns (by omega) pd h0, A.lI' (A.topB hz hz pos pos' hne) h1]
theorem own_early (hz : 1 ≤ z) (pos : ∀ e ∈ es, 0 ≤ e.2) (hns : ns ≠ []) (ho : obsD z ns (later z b es) = .none) (h0 : 0 ≤ q) (h1 : q < b) (ht : q ≤ topB z (later z b es)) : ownL z ns (later z b es) q = ns := by
  have A := alike_add (z := z) (s := (b : Int)) hz
  have bz : 0 ≤ (b : Int) * z := Int.mul_nonneg (by omega) (by omega)
  have pos' : ∀ e ∈ later z b es, 0 ≤ e.2 := fun e he => by
    obtain ⟨e', he', rfl⟩ := List.mem_map.mp he
    have := pos e' he'
    show 0 ≤ e'.2 + (b : Int) * z
    omega
  obtain ⟨_, P⟩ := (poss_iff hz pos').mp ho
  have hb : ∀ e ∈ later z b es, (b : Int) - 1 < e.2 / z := fun e he => by
    obtain ⟨e', he', rfl⟩ := List.mem_map.mp he
    have h2 := Int.ediv_nonneg (pos e' he') (show 0 ≤ z by omega)
    show (b : Int) - 1 < (e'.2 + (b : Int) * z) / z
    rw [Int.add_mul_ediv_right _ _ (by omega)]
    omega
  have he := e_low hns hb h0 (by omega)
  have hl := e_le_l' P h0 ht
  refine List.filter_eq_self.mpr fun n hn => slO_iff.mpr ⟨0, ⟨Int.le_refl _, by omega, fun i e hi hq => ?_, fun i e hi _ hq => ?_, fun i e hi _ _ => by omega⟩, by omega, by omega⟩
  · have := hb e (List.mem_of_getElem? hi)
    omega
  · have := hb e (List.mem_of_getElem? hi)
    omega
theorem rows_later (hz : 1 ≤ z) (pos : ∀ e ∈ es, 0 ≤ e.2) (hns : ns ≠ []) (hne : es ≠ []) (ho : obsD z ns (later z b es) = .none) : rowsO z ns (later z b es) = List.replicate b ns ++ rowsO z ns es := by
  have A := alike_add (z := z) (s := (b : Int)) hz
  have bz : 0 ≤ (b : Int) * z := Int.mul_nonneg (by omega) (by omega)
  have pos' : ∀ e ∈ es.map (addE ((b : Int) * z)), 0 ≤ e.2 := fun e he => by
    obtain ⟨e', he', rfl⟩ := List.mem_map.mp he
    have := pos e' he'
    show 0 ≤ e'.2 + (b : Int) * z
    omega
  have ht : topB z (later z b es) = topB z es + b := A.topB hz hz pos pos' hne
  have t0 : 0 ≤ topB z es := by
    rcases top_mem hz pos with ⟨h, _⟩ | ⟨h, _⟩
    · exact absurd h hne
    · exact h
  refine List.ext_getElem? fun i => ?_
  rcases Nat.lt_or_ge i (topB z es + b + 1).toNat with h | h
  · rw [rowsO_get (by rw [ht]; exact h)]
    rcases Nat.lt_or_ge i b with g | g
    · rw [List.getElem?_append_left (by rw [List.length_replicate]; exact g), List.getElem?_replicate, if_pos g, own_early hz pos hns ho (by omega) (by omega) (by omega)]
    · rw [List.getElem?_append_right (by rw [List.length_replicate]; exact g), List.length_replicate, rowsO_get (by omega)]
      have := own_later (q := ((i - b : Nat) : Int)) (b := b) hz hns pos hne (by omega) (by omega)
      rw [← this, show ((i - b : Nat) : Int) + (b : Int) = (i : Int) by omega]
  · rw [List.getElem?_eq_none (by rw [rowsO_len, ht]; exact h), List.getElem?_eq_none (by rw [List.length_append, List.length_replicate, rowsO_len]; omega)]
end
theorem valid_get : ∀ {rs : OwnR} {xs : List Str} {i : Nat} {o : List Str} {x : Str}, validR rs xs → rs[i]? = some o → xs[i]? = some x → x ∈ o
  | o :: r, x :: xs, 0, _, _, h, h1, h2 => by
    cases h1
    cases h2
    exact h.1
  | o :: r, x :: xs, i + 1, _, _, h, h1, h2 => valid_get (i := i) h.2 (by simpa using h1) (by simpa using h2)
  | [], [], i, _, _, _, h1, _ => by simp at h1
  | [], _ :: _, _, _, _, h, _, _ => h.elim
  | _ :: _, [], _, _, _, h, _, _ => h.elim
theorem valid_drop : ∀ {rs : OwnR} {xs : List Str} (k : Nat), validR rs xs → validR (rs.drop k) (xs.drop k)
  | [], [], k, _ => by simp [validR]
  | o :: r, x :: xs, 0, h => h
  | o :: r, x :: xs, k + 1, h => valid_drop k h.2
  | [], _ :: _, _, h => h.elim
  | _ :: _, [], _, h => h.elim
section
variable {z : Int} {ns : List Str} {es : List En} {xs : List Str}
theorem validO_get (h : validO z ns es xs) {j : Nat} {x : Str} (hx : xs[j]? = some x) : x ∈ ownL z ns es (j : Int) := by
  have hl := valid_len h
  rw [List.length_reverse, List.length_reverse, rowsO_len] at hl
  have hj := (List.getElem?_eq_some_iff.mp hx).1
  refine valid_get (i := xs.length - 1 - j) h (o := ownL z ns es (j : Int)) ?_ ?_
  · rw [List.getElem?_reverse (by rw [rowsO_len]; omega), rowsO_len, show (topB z es + 1).toNat - 1 - (xs.length - 1 - j) = j by omega]
    exact rowsO_get (by omega)
  · rw [List.getElem?_reverse (by omega), show xs.length - 1 - (xs.length - 1 - j) = j by omega]
    exact hx
theorem lenP_take {j : Nat} (h : j ≤ (topB z es + 1).toNat) : lenP ((rowsO z ns es).take j).reverse = prodO z ns es 0 j := by
  rw [lenP_rev, ← lenP_prod]
  unfold rowsO
  rw [← List.map_take, List.take_range, Nat.min_eq_left h]
theorem idx_take (hg : goodR (rowsO z ns es).reverse) (h : validO z ns es xs) {j : Nat} (hj : j ≤ (topB z es + 1).toNat) : 0 ≤ idxR ((rowsO z ns es).take j).reverse (xs.take j).reverse ∧ idxR ((rowsO z ns es).take j).reverse (xs.take j).reverse < prodO z ns es 0 j := by
  have hl := valid_len h
  rw [List.length_reverse, List.length_reverse, rowsO_len] at hl
  rw [← lenP_take hj]
  refine idx_bd (fun o ho => hg o ?_) ?_
  · exact List.mem_reverse.mpr (List.mem_of_mem_take (List.mem_reverse.mp ho))
  · rw [List.reverse_take, List.reverse_take, rowsO_len, hl]
    exact valid_drop _ h
end
/-! ### promises -/
theorem idx_min {x : Str} : ∀ {o : List Str} {m : Nat} {y : Str}, m < o.idxOf x → o[m]? = some y → y ≠ x
  | [], m, y, h, _ => by simp at h
  | a :: r, m, y, h, hy => by
    rw [List.idxOf_cons] at h
    by_cases e : a = x
    · have eb : (a == x) = true := by simpa using e
      rw [eb] at h
      exact absurd h (Nat.not_lt_zero _)
    · have eb : (a == x) = false := by simpa using e
      rw [eb] at h
      replace h : m < r.idxOf x + 1 := h
      cases m with
      | zero =>
        cases hy
        exact e
      | succ m => exact idx_min (show m < r.idxOf x by omega) (by simpa using hy)
theorem loop_rev {K : PySem.W.Frag} {a : Addr} {g : TG} {tb : TS} {D : Ends} {σ : L2.St} {H : Hp} (xs : List V) (Pv : Nat → L2.St → Hp → Prop) (h0 : Pv 0 σ H) (hl : ∀ i σ' H', i ≤ xs.length → Pv i σ' H' → SqL K H' a xs)
    (hs : ∀ (i : Nat) x σ' H', xs.reverse[i]? = some x → Pv i σ' H' → g x σ' H' fun σ2 H2 => tb { D with nx := Pv (i + 1), ct := Pv (i + 1), bk := D.nx } σ2 H2) (hd : ∀ σ' H', Pv xs.length σ' H' → D.nx σ' H') : LoopR (Itv K a xs.length) g tb D σ H := by
  refine ⟨fun i m σ' H' => m = xs.length - i ∧ i ≤ xs.length ∧ Pv i σ' H', ⟨_, rfl, Nat.zero_le _, h0⟩, ?_⟩
  rintro i m σ' H' ⟨rfl, hi, p⟩
  have q := hl i σ' H' hi p
  by_cases hlt : i < xs.length
  · refine .inr ⟨⟨hlt, xs, xs[xs.length - 1 - i]'(by omega), q, List.getElem?_eq_getElem _⟩, Pv (i + 1), fun σ2 H2 p' => ⟨_, by omega, rfl, hlt, p'⟩, fun x H2 y => ?_⟩
    obtain ⟨rfl, y⟩ := y
    exact hs i x σ' _ (by rw [List.getElem?_reverse hlt]; exact y xs q) p
  · have e : i = xs.length := by omega
    subst e
    exact .inl ⟨Nat.le_refl _, hd σ' H' p⟩
def sp_nth_list (K : PySem.W.Frag) : Sp := fun vs H Q _ => ∃ p b z ns es, ∃ i : Int, vs = [.ref p, .int i] ∧ LogAt K H p b z ns es ∧ topB z es ≤ 200 ∧ obsD z ns es = .none ∧ 0 ≤ i ∧ i < cntO z ns es ∧ ∀ a H', H a = none → Same H H' → H' a = some (.lst ((nthO z ns es i).map V.str)) → Q (.ref a) H'
def sp_place_in (_ : PySem.W.Frag) : Sp := fun vs H Q _ => ∃ (r : Addr) (o : List Str) (x : Str), vs = [.ref r, .str x] ∧ H r = some (.lst (o.map V.str)) ∧ x ∈ o ∧ Q (.int (o.idxOf x : Int)) H
def sp_list_index (K : PySem.W.Frag) : Sp := fun vs H Q _ => ∃ p b z ns es, ∃ (l : Addr) (xs : List Str), vs = [.ref p, .ref l] ∧ LogAt K H p b z ns es ∧ topB z es ≤ 200 ∧ obsD z ns es = .none ∧ H l = some (.lst (xs.map V.str)) ∧ validO z ns es xs ∧ ∀ H', Same H H' → Q (.int (idxO z ns es xs)) H'
end NbAb

set_option Elab.async false
set_option linter.all false
set_option maxRecDepth 100000
set_option maxHeartbeats 4000000
namespace LawP
open PySem PySem.Spec PyProof.Rows L2 Nb NbR NbB NbE NbT NbU NbS NbF NbP NbK NbL NbX NbW NbV NbZ NbY NbM NbQ NbC NbG NbH NbI NbJ NbO NbA NbD NbN NbAa NbAb
local macro_rules
  | `(tactic| walk_at "rd") => `(tactic| simp only [L2.start, L2.cxOf, L2.Cx.blk, List.map_cons, List.map_nil, List.length_cons, List.length_nil, Nat.zero_add, Nat.reduceAdd, Nat.reduceSub, List.replicate, List.cons_append, List.nil_append, List.append_nil,
      List.getElem?_cons_zero, List.getElem?_cons_succ, Option.some.injEq, exists_eq_left', exists_eq_left, exists_and_left, V.int.injEq, V.ref.injEq, V.bl.injEq, V.str.injEq, List.set_cons_zero, List.set_cons_succ, List.cons.injEq, and_true, true_and, L2.wipe,
      tVar, tC, tOp, tUn, tAndV, tOrV, tNotV, tIf, tB, tTest, tAnd, tOr, tNot, tYes, tCB, tCons, tNil, tSeq, tAsg, tRet, tRetN, tDrop, tIfS, tNext, tBreak, tCont, tLst, tTup, gName, gCons, gNil, gTup, gSub, gLst, tChain3, tCall, tMake, tMeth2, tProp2, tFld, tCon, ClX.tCVal, tSl, tPart, tNoPart, tRevL, tDSetd, tDGet, tDGet2, tDIn, tDNotIn, sDPut, tCallK0, iEnum, iRev, NbB.tListZip, NbX.tAdd2S, NbX.tMeth2S, NbX.tMeth2K, NbK.rLen2, tCKw, tMakeK, tDNewK, tDisp, tPairs,
      tLock, tLockE, iKeys, rI0, rI, rU, rIxL, rIxT, rSetL, tPar, tPar3, rSetD, tChain, tBits, tBM, tBM0, tLenSetS, tIsN, tNotN, NbF.tFor_eq, NbF.tLc_eq, iRng1, iRng2, iList, iTup, iZip, sFld, if_true, if_false, Bool.not_true, Bool.not_false, Bool.false_eq_true, decide_eq_true_eq, Bool.not_eq_true', Bool.not_eq_false', decide_eq_false_iff_not, Int.not_le, Int.not_lt, eq_self, NbF.b1, NbF.b2, NbF.b3, NbF.b4, NbF.b5, NbF.dk1, decide_true, decide_false, ite_self, Bool.true_eq_false, reduceCtorEq])
def alphaV : List Str := ["a", "b", "c", "d", "e", "f", "g", "h", "i", "j", "k", "l", "m", "n", "o", "p", "q", "r", "s", "t", "u", "v", "w", "x", "y", "z"]
def sp_law_made (K : PySem.W.Frag) : Sp := fun vs H Q _ => ∃ (b : Bool) (z : Int) (c s : Addr) (ns : List Str) (es : List En), vs = [.bl b, .int z, .ref c, .ref s] ∧ WF z ns es ∧ CrewAt H c ns ∧ EntsAt H s es ∧ NewLogX K H Q b z ns es
def sp_law_window (K : PySem.W.Frag) : Sp := fun vs H Q _ => ∃ (s : Addr) (z : Int) (n : Str) (far : Int) (es : List En), vs = [.int z, .ref s, .str n, .int far] ∧ SizeOk z ∧ es.length ≤ 200 ∧ EntsAt H s es ∧ ∀ v H', Same H H' → Dp K H' v (duD (winO z es n far)) → Q v H'
def sp_law_clean (_ : PySem.W.Frag) : Sp := fun vs H Q _ => ∃ (z : Int) (s : Addr) (es : List En), vs = [.int z, .ref s] ∧ SizeOk z ∧ es.length ≤ 200 ∧ EntsAt H s es ∧ (∀ (i j : Nat) (e f : En), i < j → es[i]? = some e → es[j]? = some f → (e.1 = f.1 → e.2 < f.2) ∧ (e.1 ≠ f.1 → e.2 / z ≠ f.2 / z)) ∧ ∀ H', Same H H' → Q (.bl true) H'
theorem win_none {z q : Int} {es : List En} {n : Str} {e : En} (he : e ∈ es) (h1 : e.1 ≠ n) (h2 : e.2 / z = q) : winO z es n q = none := by
  cases h : winO z es n q with
  | none => rfl
  | some w =>
    obtain ⟨i, hi⟩ := List.mem_iff_getElem?.mp he
    exact absurd ((winO_hold h).1 i e hi h2) h1
def gV_count_lists : List V → List V → List V := z1 fun b => [b]
theorem rep_flat (a : Addr) : ∀ k : Nat, (List.replicate k [V.ref a]).flatten = (List.replicate k a).map V.ref
  | 0 => rfl
  | k + 1 => by
    rw [List.replicate_succ, List.flatten_cons, rep_flat a k, List.replicate_succ, List.map_cons]
    rfl
abbrev zedS : Str := "zed"
theorem not_zed {a r k : Nat} (h1 : a < 12) (h2 : r < 13) (h3 : k < 3) : nm a r k ≠ zedS := fun e => by
  have h := (nm_ok a h1 r h2 k h3).2
  rw [e, show zedS.cps.toList.getLast? = some 100 by decide +kernel] at h
  have := Option.some.inj h
  omega
theorem crew_zed {ns : List Str} (h : Crew ns) (hz : ∀ n ∈ ns, n ≠ zedS) (hl : ns.length ≤ 11) : Crew (ns ++ [zedS]) := by
  refine ⟨?_, List.nodup_append.mpr ⟨h.nd, by decide +kernel, fun a ha b hb e => ?_⟩, fun x hx => ?_⟩
  · rw [List.length_append, List.length_singleton]
    omega
  · rw [List.mem_singleton] at hb
    exact hz a ha (e.trans hb)
  · rcases List.mem_append.mp hx with g | g
    · exact h.ok x g
    · rw [List.mem_singleton.mp g]
      decide +kernel
def sp_law_names (K : PySem.W.Frag) : Sp := fun vs H Q _ => ∃ (fa : Addr) (m : Int) (k : Nat), vs = [.ref fa, .int m] ∧ Jar k H fa ∧ k ≤ 900000 ∧ 1 ≤ m ∧ m ≤ 12 ∧ ∀ c ns H', H c = none → StJ fa 24 H H' → CrewAt H' c ns → Crew ns → (ns.length : Int) = m → (∀ n ∈ ns, n ≠ zedS) → Q (.ref c) H'
/-- as the shared one, and how many blocks are taken at most -/
def sp_law_scene (_ : PySem.W.Frag) : Sp := fun vs H Q _ => ∃ (fa : Addr) (mo ma jm : Int) (k : Nat), vs = [.ref fa, .int mo, .int ma, .int jm] ∧ Jar k H fa ∧ k ≤ 800000 ∧ 1 ≤ mo ∧ mo ≤ 60 ∧ 1 ≤ ma ∧ ma ≤ 12 ∧ 0 ≤ jm ∧ jm ≤ 10 ^ 36 ∧
  ∀ r z c s ns es tks fr H', H r = none → StJ fa 2000 H H' → H' r = some (.tup [.int z, .ref c, .ref s]) → SizeOk z → CrewAt H' c ns → Crew ns → (ns.length : Int) ≤ ma → EntsAt H' s es → (es.length : Int) ≤ mo → (∀ e ∈ es, e.1 ∈ ns ∧ 0 ≤ e.2) → Tale z es tks fr → (∀ t ∈ tks, t.n ∈ ns) → (∀ e ∈ es, e.2 < 10 ^ 80) → fr ≤ 180 * (jm + 4) → (∀ n ∈ ns, n ≠ zedS) → Q (.ref r) H'
theorem shaped_strs {ns l : List Str} (h : Crew ns) (hl : ∀ n ∈ l, n ∈ ns) : SeqAt.shaped (.list (l.map PyData.str)) = true := by
  unfold SeqAt.shaped
  rw [Bool.and_eq_true]
  refine ⟨lay_strs fun n hn => h.ok n (hl n hn), decide_eq_true ?_⟩
  show PyData.depthAll (l.map PyData.str) + 1 ≤ 64
  rw [dep_strs]
  decide
theorem cut_refs (us : List Addr) (lo hi : Option Int) : ∃ us' : List Addr, cutV (us.map V.ref) lo hi = us'.map V.ref ∧ (∀ u ∈ us', u ∈ us) ∧ us'.length ≤ us.length := by
  unfold cutV
  rw [← List.map_drop, ← List.map_take]
  refine ⟨_, rfl, fun u hu => List.mem_of_mem_drop (List.mem_of_mem_take hu), ?_⟩
  rw [List.length_take, List.length_drop]
  omega
theorem pow_le12 {k n : Nat} (h : k ≤ n) : (12 : Int) ^ k ≤ 12 ^ n := by
  have e : (12 : Int) ^ n = 12 ^ k * 12 ^ (n - k) := by rw [← Int.pow_add, show k + (n - k) = n by omega]
  rw [e]
  have h1 : (1 : Int) ≤ 12 ^ (n - k) := Int.pow_pos (by decide)
  have h2 : (0 : Int) ≤ 12 ^ k := Int.le_of_lt (Int.pow_pos (by decide))
  have := Int.mul_le_mul_of_nonneg_left h1 h2
  omega
theorem powl_le {l : Int} {j n : Nat} (h0 : 0 ≤ l) (h1 : l ≤ 12) (h : j ≤ n) : 0 ≤ l ^ j ∧ l ^ j ≤ 12 ^ n := by
  have go : ∀ j : Nat, 0 ≤ l ^ j ∧ l ^ j ≤ 12 ^ j := fun j => by
    induction j with
    | zero => exact ⟨by rw [Int.pow_zero]; decide, by rw [Int.pow_zero, Int.pow_zero]; exact Int.le_refl _⟩
    | succ j ih =>
      rw [Int.pow_succ, Int.pow_succ]
      exact ⟨Int.mul_nonneg ih.1 h0, Int.mul_le_mul ih.2 h1 h0 (Int.le_of_lt (Int.pow_pos (by decide)))⟩
  exact ⟨(go j).1, Int.le_trans (go j).2 (pow_le12 h)⟩
theorem lenP_rep (ns : List Str) : ∀ j : Nat, lenP (List.replicate j ns) = (ns.length : Int) ^ j
  | 0 => rfl
  | j + 1 => by
    rw [List.replicate_succ, Int.pow_succ, ← lenP_rep ns j, Int.mul_comm]
    rfl
theorem valid_rep {ns : List Str} : ∀ {j : Nat} {xs : List Str}, xs.length = j → (∀ x ∈ xs, x ∈ ns) → validR (List.replicate j ns) xs
  | 0, [], _, _ => trivial
  | j + 1, x :: xs, h, k => ⟨k x (List.mem_cons_self ..), valid_rep (by simpa using h) fun y hy => k y (List.mem_cons_of_mem _ hy)⟩
  | 0, _ :: _, h, _ => by simp at h
  | _ + 1, [], h, _ => by simp at h
theorem wf_in {z : Int} {ns : List Str} {es : List En} (hw : WF z ns es) : ∀ e ∈ es, e.1 ∈ ns := fun e he => by
  have g := hw.en.ok e he
  unfold enOk at g
  simp only [Bool.and_eq_true, decide_eq_true_eq] at g
  simpa using g.1
theorem wf_names {z : Int} {ns ms : List Str} {es : List En} (hw : WF z ns es) (hm : Crew ms) (h : ∀ s ∈ ns, s ∈ ms) : WF z ms es := ⟨hw.sz, hm, ens_of hw.en.few fun e he => ⟨h _ (wf_in hw e he), wf_pos hw e he⟩⟩
theorem crew_rev {ns : List Str} (h : Crew ns) : Crew ns.reverse := ⟨by rw [List.length_reverse]; exact h.few, List.pairwise_reverse.mpr (h.nd.imp fun h => h.symm), fun z hz => h.ok z (List.mem_reverse.mp hz)⟩
theorem validO_sub {z : Int} {ns ms : List Str} {es : List En} {xs : List Str} (h : ∀ q, 0 ≤ q → q ≤ topB z es → ∀ s ∈ ownL z ns es q, s ∈ ownL z ms es q) (hv : validO z ns es xs) : validO z ms es xs := by
  refine valid_sub (by rw [List.length_reverse, List.length_reverse, rowsO_len, rowsO_len]) (fun i a b ha hb => ?_) hv
  have hi := (List.getElem?_eq_some_iff.mp ha).1
  rw [List.length_reverse, rowsO_len] at hi
  rw [List.getElem?_reverse (by rw [rowsO_len]; exact hi), rowsO_len, rowsO_get (by omega)] at ha hb
  cases ha
  cases hb
  exact h _ (by omega) (by omega)
theorem validO_nth {z : Int} {ns : List Str} {es : List En} (hg : goodR (rowsO z ns es).reverse) (i : Int) : validO z ns es (nthO z ns es i) := by
  unfold validO nthO
  rw [List.reverse_reverse]
  exact nthR_valid i hg
theorem nthO_in {z : Int} {ns : List Str} {es : List En} (hg : goodR (rowsO z ns es).reverse) (i : Int) : ∀ x ∈ nthO z ns es i, x ∈ ns := fun x h => by
  unfold nthO at h
  obtain ⟨j, hj⟩ := List.mem_iff_getElem?.mp (List.mem_reverse.mp h)
  have hv := nthR_valid i hg
  have hil := (List.getElem?_eq_some_iff.mp hj).1
  rw [valid_len hv] at hil
  have hm := valid_get hv (List.getElem?_eq_getElem hil) hj
  obtain ⟨q', _, hq'⟩ := List.mem_map.mp (List.mem_reverse.mp (List.getElem_mem hil))
  rw [← hq'] at hm
  exact (List.mem_filter.mp hm).1
def sp_law_later_right (K : PySem.W.Frag) : Sp := fun vs H Q _ => ∃ (fa bk : Addr) (b : Bool) (z : Int) (ns : List Str) (es : List En) (k : Nat), vs = [.ref fa, .ref bk, .int (cntO z ns es)] ∧ Jar k H fa ∧ k ≤ 710000 ∧ LogAt K H bk b z ns es ∧ obsD z ns es = .none ∧ topB z es < 30 ∧ es ≠ [] ∧ (∀ e ∈ es, e.2 < 10 ^ 80) ∧ ∀ H', StJ fa 10 H H' → Q (.bl true) H'
def sp_law_right (_ : PySem.W.Frag) : Sp := fun vs H Q _ => ∃ (fa c s : Addr) (z : Int) (ns : List Str) (es : List En) (tks : List Take) (fr : Int) (k : Nat), vs = [.ref fa, .int z, .ref c, .ref s] ∧ Jar k H fa ∧ k ≤ 700000 ∧ WF z ns es ∧ CrewAt H c ns ∧ EntsAt H s es ∧ Tale z es tks fr ∧ (∀ t ∈ tks, t.n ∈ ns) ∧ topB z es < 30 ∧ ns.length ≤ 4 ∧ (∀ n ∈ ns, n ≠ zedS) ∧ (∀ e ∈ es, e.2 < 10 ^ 80) ∧ ∀ H', StJ fa 20 H H' → Q (.bl true) H'
def sp_law (K : PySem.W.Frag) : Sp := fun vs H Q _ => ∃ (a : Addr) (xs : List Int), vs = [.ref a] ∧ SqL K H a (xs.map V.int) ∧ xs.length ≤ 63 ∧ ∀ H', Q (.bl true) H'
structure Txt (K : PySem.W.Frag) (mg : Str → Option Value) : Prop where
  n_len : mg "len" = none
  n_max : mg "max" = none
  n_min : mg "min" = none
  n_abs : mg "abs" = none
  n_int : mg "int" = none
  n_bool : mg "bool" = none
  n_str : mg "str" = none
  n_list : mg "list" = none
  n_tuple : mg "tuple" = none
  n_dict : mg "dict" = none
  n_isinstance : mg "isinstance" = none
  n_all : mg "all" = none
  n_any : mg "any" = none
  n_repr : mg "repr" = none
  n_range : mg "range" = none
  n_enumerate : mg "enumerate" = none
  n_zip : mg "zip" = none
  n_sorted : mg "sorted" = none
  n_set : mg "set" = none
  n_sum : mg "sum" = none
  n_reversed : mg "reversed" = none
  g_GREATEST_SIZE : ∃ u, mg "GREATEST_SIZE" = some u ∧ RelV (.int 1000000000000000000000000000000) u
  g_MOST_SERVERS : ∃ u, mg "MOST_SERVERS" = some u ∧ RelV (.int 12) u
  g_MOST_LETTERS : ∃ u, mg "MOST_LETTERS" = some u ∧ RelV (.int 8) u
  g_MOST_ENTRIES : ∃ u, mg "MOST_ENTRIES" = some u ∧ RelV (.int 200) u
  g_GREATEST_BLOCK : ∃ u, mg "GREATEST_BLOCK" = some u ∧ RelV (.int 200) u
  g_BookError : ∃ u, mg "BookError" = some u ∧ RelV (.ref (He.ga K "BookError")) u
  g_InvalidSize : ∃ u, mg "InvalidSize" = some u ∧ RelV (.ref (He.ga K "InvalidSize")) u
  g_InvalidServers : ∃ u, mg "InvalidServers" = some u ∧ RelV (.ref (He.ga K "InvalidServers")) u
  g_InvalidEntries : ∃ u, mg "InvalidEntries" = some u ∧ RelV (.ref (He.ga K "InvalidEntries")) u
  g_InvalidNumber : ∃ u, mg "InvalidNumber" = some u ∧ RelV (.ref (He.ga K "InvalidNumber")) u
  g_InvalidOwners : ∃ u, mg "InvalidOwners" = some u ∧ RelV (.ref (He.ga K "InvalidOwners")) u
  g_InvalidLog : ∃ u, mg "InvalidLog" = some u ∧ RelV (.ref (He.ga K "InvalidLog")) u
  g_TooLarge : ∃ u, mg "TooLarge" = some u ∧ RelV (.ref (He.ga K "TooLarge")) u
  g_NotPossible : ∃ u, mg "NotPossible" = some u ∧ RelV (.ref (He.ga K "NotPossible")) u
  g_Sight : ∃ u, mg "Sight" = some u ∧ RelV (.ref (He.ga K "Sight")) u
  g_Reach : ∃ u, mg "Reach" = some u ∧ RelV (.ref (He.ga K "Reach")) u
  g_Log : ∃ u, mg "Log" = some u ∧ RelV (.ref (He.ga K "Log")) u
  g_LosingLog : ∃ u, mg "LosingLog" = some u ∧ RelV (.ref (He.ga K "LosingLog")) u
  sf : NbW.SF K
  k_Sight : Mk K (He.ga K "Sight") (He.ma K (He.ga K "Sight") "__init__")
  m_Sight_window_of : Met2 K (fun _ => NbW.CS K) "window_of" (d_Sight_window_of.way K)
  m_Sight_windows_of : Met2 K (fun _ => NbW.CS K) "windows_of" (d_Sight_windows_of.way K)
  m_Sight_slot_from : Met2 K (fun _ => NbW.CS K) "slot_from" (d_Sight_slot_from.way K)
  m_Sight_slot_up_to : Met2 K (fun _ => NbW.CS K) "slot_up_to" (d_Sight_slot_up_to.way K)
  m_Sight_span_starts : Met2 K (fun _ => NbW.CS K) "span_starts" (d_Sight_span_starts.way K)
  m_Sight_whole_spans : Met2 K (fun _ => NbW.CS K) "whole_spans" (d_Sight_whole_spans.way K)
  m_Sight_earliest_slots : Met2 K (fun _ => NbW.CS K) "earliest_slots" (d_Sight_earliest_slots.way K)
  m_Sight_latest_slots : Met2 K (fun _ => NbW.CS K) "latest_slots" (d_Sight_latest_slots.way K)
  rf : NbD.RF K
  k_Reach : Mk K (He.ga K "Reach") (He.ma K (He.ga K "Reach") "__init__")
  m_Reach_slots_in : Met2 K (fun _ => NbD.CR K) "slots_in" (d_Reach_slots_in.way K)
  m_Reach_owners_in : Met2 K (fun _ => NbD.CR K) "owners_in" (d_Reach_owners_in.way K)
  x_InvalidLog : NbX.ExcF K mg "InvalidLog"
  lf : LF K
  m_Log_init : Met2 K (C2 K) "__init__" (d_Log_init.way K)
  m_Log_len : Met2 K (C2 K) "__len__" (d_Log_len.way K)
  m_Log_add : Met2 K (C2 K) "__add__" (d_Log_add.way K)
  m_Log_eq : Met2 K (C2 K) "__eq__" (d_Log_eq.way K)
  m_Log_contains : Met2 K (C2 K) "__contains__" (d_Log_contains.way K)
  m_Log_front : Met2 K (C2 K) "front" (d_Log_front.way K)
  m_Log_last_block : Met2 K (C2 K) "last_block" (d_Log_last_block.way K)
  m_Log_is_alike : Met2 K (C2 K) "_is_alike" (d_Log_is_alike.way K)
  p_size : Prp2 K (C2 K) "size" (d_Log_size.way K)
  p_servers : Prp2 K (C2 K) "servers" (d_Log_servers.way K)
  p_entries : Prp2 K (C2 K) "entries" (d_Log_entries.way K)
  add2 : NbX.Add2 K (C2 K) (He.ma K (CL K) "__add__")
  k_Log : Mk K (He.ga K "Log") (He.ma K (He.ga K "Log") "__init__")
  k_LosingLog : Mk K (He.ga K "LosingLog") (He.ma K (He.ga K "Log") "__init__")
  two : TwoOk K (C2 K) (d_Log_eq.way K)
section
variable {P : Program} {w : World} {K : PySem.W.Frag} {mg : Str → Option Value} {base : Heap}
theorem ok_is_integer {f : Addr} {fd : FuncData} (F : d_is_integer.Is K f fd) (T : Txt K mg) :
    FnOk P w K mg base CX0 1 f fd ["thing"] (sp_is_integer K) := by
  refine F.ok sc_is_integer (fun vs H Q E h => ?_) (fun cdv A outer s H vs Q E hr h => ?_)
  · obtain ⟨x, d, rfl, k, q⟩ := h
    rfl
  · obtain ⟨x, d, rfl, k, q⟩ := h
    refine ⟨_, PSs.nox (pss_one (ps_ret (pe_and (pe_callB call_isi (by rfl) T.n_isinstance (by decide +kernel) (pa_cons (pv 0) (pa_cons (pe_bltn (v := .ty "int") (by rfl) T.n_int (by decide +kernel) rfl) pa_nil))) (pe_one (pe_not (pe_callB call_isi (by rfl) T.n_isinstance (by decide +kernel) (pa_cons (pv 0) (pa_cons (pe_bltn (v := .ty "bool") (by rfl) T.n_bool (by decide +kernel) rfl) pa_nil)))))))), ?_⟩
    walk_at "rd"
    refine isi_b T.lf k (.inl rfl) ⟨_, rfl, ite2 (fun e => isi_b T.lf k (.inr (.inl rfl)) ⟨_, rfl, ?_⟩) (fun e => ?_)⟩
    · cases d with
      | log b => exact absurd e (by cases b <;> decide +kernel)
      | _ => first | exact q | exact absurd e (by decide +kernel)
    · cases d with
      | log b => exact q
      | _ => first | exact q | exact absurd (by decide +kernel) e
theorem ok_is_natural {f : Addr} {fd : FuncData} (F : d_is_natural.Is K f fd) (T : Txt K mg)
    (c_is_integer : C8.Cal P w K mg base 1 "is_integer" (sp_is_integer K) []) :
    FnOk P w K mg base CX0 2 f fd ["thing"] (sp_is_natural K) := by
  refine F.ok sc_is_natural (fun vs H Q E h => ?_) (fun cdv A outer s H vs Q E hr h => ?_)
  · obtain ⟨x, d, rfl, k, q⟩ := h
    rfl
  · obtain ⟨x, d, rfl, k, q⟩ := h
    refine ⟨_, PSs.nox (pss_one (ps_ret (pe_and (C8.pe_c c_is_integer hr (by decide) (by rfl) (pa_cons (pv 0) pa_nil)) (pe_one (pe_cmpR op_ge (pv 0) pe_int (nomark _)))))), ?_⟩
    walk_at "rd"
    refine ⟨x, d, rfl, k, _, rfl, ite2 (fun e => ?_) (fun e => ?_)⟩
    · cases k <;> first | exact ⟨_, rfl, q⟩ | exact absurd e (by simp)
    · cases k <;> first | exact q | exact absurd (by simp) e
theorem ok_is_size {f : Addr} {fd : FuncData} (F : d_is_size.Is K f fd) (T : Txt K mg)
    (c_is_integer : C8.Cal P w K mg base 1 "is_integer" (sp_is_integer K) []) :
    FnOk P w K mg base CX0 2 f fd ["thing"] (sp_is_size K) := by
  refine F.ok sc_is_size (fun vs H Q E h => ?_) (fun cdv A outer s H vs Q E hr h => ?_)
  · obtain ⟨x, d, rfl, k, q⟩ := h
    rfl
  · obtain ⟨x, d, rfl, k, q⟩ := h
    refine ⟨_, PSs.nox (pss_one (ps_ret (pe_and (C8.pe_c c_is_integer hr (by decide) (by rfl) (pa_cons (pv 0) pa_nil)) (pe_one (pe_chain op_le op_le pe_int (pv 0) (C8.pe_gc (by rfl) T.g_GREATEST_SIZE)))))), ?_⟩
    walk_at "rd"
    refine ⟨x, d, rfl, k, _, rfl, ?_⟩
    cases k with
    | int i =>
      refine ifP (by decide) ⟨i, rfl, ite2 (fun h => ⟨i, rfl, ?_⟩) (fun h => ?_)⟩
      · have e1 : sizeV (.int i) = decide (i ≤ 1000000000000000000000000000000) := by
          show (decide (1 ≤ i) && decide (i ≤ 10 ^ 30)) = _
          rw [decide_eq_true h]
          rfl
        rw [← e1]
        exact q
      · have e1 : sizeV (.int i) = false := by
          show (decide (1 ≤ i) && decide (i ≤ 10 ^ 30)) = _
          rw [decide_eq_false h]
          rfl
        rw [← e1]
        exact q
    | log => exact ifN (by simp) q
    | _ => exact ifN (by decide) q
theorem ok_is_name {f : Addr} {fd : FuncData} (F : d_is_name.Is K f fd) (T : Txt K mg) :
    FnOk P w K mg base CX0 1 f fd ["thing"] (sp_is_name K) := by
  refine F.ok sc_is_name (fun vs H Q E h => ?_) (fun cdv A outer s H vs Q E hr h => ?_)
  · obtain ⟨z, rfl, hl, q⟩ := h
    rfl
  · obtain ⟨z, rfl, hl, q⟩ := h
    refine ⟨_, PSs.nox (pss_cons (ps_if (PW.pt (pw_or (pt_not (pt_val (pe_callB call_isi (by rfl) T.n_isinstance (by decide +kernel) (pa_cons (pv 0) (pa_cons (pe_bltn (v := .ty "str") (by rfl) T.n_str (by decide +kernel) rfl) pa_nil))))) (pw_or1 (pt_cmpR op_gt (pe_callB call_len_str (by rfl) T.n_len (by decide +kernel) (pa_cons (pv 0) pa_nil)) (C8.pe_gc (by rfl) T.g_MOST_LETTERS) (nomark _)))))
          (pss_one (ps_ret pe_bl))
          pss_nil)
        (pss_one (ps_ret (pe_and (pe_bm0 PySem.F.plainAttrs_str PySem.F.slot_str_isascii PySem.F.type_str_isascii mt_isascii (pv 0)) (pe_and (pe_bm0 PySem.F.plainAttrs_str PySem.F.slot_str_isalpha PySem.F.type_str_isalpha mt_isalpha (pv 0)) (pe_one (pe_bm0 PySem.F.plainAttrs_str PySem.F.slot_str_islower PySem.F.type_str_islower mt_islower (pv 0)))))))), ?_⟩
    walk_at "rd"
    refine isi_b T.lf (.str z) (.inr (.inr (.inl rfl))) ⟨_, rfl, ifN (by decide +kernel) ⟨hl, ite2 (fun e => ?_) (fun e => ?_)⟩⟩
    · rw [name_no (by omega)] at q
      exact q
    · unfold nameOk at q
      rw [decide_eq_true (show z.length ≤ 8 by omega)] at q
      cases h1 : Txt.isascii z with
      | false =>
        rw [h1] at q
        exact ⟨rfl, iteF q⟩
      | true =>
        rw [h1] at q
        refine ⟨rfl, iteT ⟨rfl, ?_⟩⟩
        cases h2 : Txt.isalpha z with
        | false =>
          rw [h2] at q
          exact iteF q
        | true =>
          rw [h2] at q
          exact iteT ⟨rfl, q⟩
theorem ok_are_servers {f : Addr} {fd : FuncData} (F : d_are_servers.Is K f fd) (T : Txt K mg)
    (c_is_name : C8.Cal P w K mg base 1 "is_name" (sp_is_name K) []) :
    FnOk P w K mg base CX0 2 f fd ["thing"] (sp_are_servers K) := by
  refine F.ok sc_are_servers (fun vs H Q E h => ?_) (fun cdv A outer s H vs Q E hr h => ?_)
  · obtain ⟨c, ns, rfl, hc, g, q⟩ := h
    rfl
  · obtain ⟨c, ns, rfl, hc, g, q⟩ := h
    refine ⟨_, PSs.nox (pss_cons (ps_if (PW.pt (pw_or (pt_not (pt_val (pe_callB call_isi (by rfl) T.n_isinstance (by decide +kernel) (pa_cons (pv 0) (pa_cons (pe_bltn (v := .ty "list") (by rfl) T.n_list (by decide +kernel) rfl) pa_nil))))) (pw_or1 (pt_not (pt_chain op_le op_le pe_int (pe_callB call_len_seq (by rfl) T.n_len (by decide +kernel) (pa_cons (pv 0) pa_nil)) (C8.pe_gc (by rfl) T.g_MOST_SERVERS))))))
          (pss_one (ps_ret pe_bl))
          pss_nil)
        (pss_one (ps_ret (pe_and (pe_callB (cr_all rfl) (by rfl) T.n_all (by decide +kernel) (pa_cons (pe_lc (own := [("name", 1)]) (g := gName 1) (tt := tYes) (by rfl) sc_are_servers.nd (pi_list (pv 0)) (blkOk_by (N := ["thing", "name"]) (sc := defScope s_are_servers) (by decide +kernel)) (fun _ _ _ _ _ => (pg_name (i := 1) sc_are_servers.nd rfl (Or.inl rfl))) (fun _ _ _ _ _ => pts_nil) (fun _ _ _ _ _ => (C8.pe_c c_is_name hr (by decide) (by rfl) (pa_cons (pv 1) pa_nil)))) pa_nil)) (pe_one (pe_cmpR op_eq (pe_lenSetS rfl (by rfl) T.n_len (by rfl) T.n_set (pv 0)) (pe_callB call_len_seq (by rfl) T.n_len (by decide +kernel) (pa_cons (pv 0) pa_nil)) (nomark _))))))), ?_⟩
    walk_at "rd"
    refine isi_b T.lf (.lst hc) (.inr (.inr (.inr (.inl rfl)))) ⟨_, rfl, ifN (by decide +kernel) ⟨_, .inl (CrewAt.sq hc), ?_⟩⟩
    have hl := g.few
    refine ifP (by rw [List.length_map]; omega) (ifN (by rw [List.length_map]; omega) ⟨⟨_, CrewAt.sq hc⟩, fun L hL => ?_⟩)
    refine comp_list (ns.map V.str) (fun i H' => Same H H' ∧ H' L = some (.lst ((List.replicate i true).map V.bl))) ⟨Same.new (Same.refl _) hL, upd_same⟩ (fun i H' _ z => SqL.of (z.1 _ _ hc)) ?_ ?_
    · rintro i x H' hi ⟨e, h1⟩
      rw [List.getElem?_map] at hi
      obtain ⟨z, hz, rfl⟩ := Option.map_eq_some_iff.mp hi
      walk_at "rd"
      have hm := List.mem_of_getElem? hz
      have hn := g.ok z hm
      have h8 : z.length ≤ 8 := by
        unfold nameOk at hn
        simp only [Bool.and_eq_true, decide_eq_true_eq] at hn
        exact hn.1
      have hlt := (List.getElem?_eq_some_iff.mp hz).1
      refine ⟨z, rfl, sz_le (by omega), _, h1, sz_lt (by rw [List.length_map, List.length_replicate]; omega), Nb.Same.mut e hL, ?_⟩
      rw [upd_same, hn, rep_snoc]
      rfl
    · rintro H' ⟨e, h1⟩
      refine rall h1 ⟨_, rfl, ifP (all_rep _) ⟨ns, CrewAt.sq (e _ _ hc), g.nd, by omega, _, .inl (CrewAt.sq (e _ _ hc)), ?_⟩⟩
      exact eq_int (by rw [List.length_map, decide_eq_true rfl]; exact q _ e)
theorem ok_is_server {f : Addr} {fd : FuncData} (F : d_is_server.Is K f fd) (T : Txt K mg) :
    FnOk P w K mg base CX0 1 f fd ["servers", "thing"] (sp_is_server K) := by
  refine F.ok sc_is_server (fun vs H Q E h => ?_) (fun cdv A outer s H vs Q E hr h => ?_)
  · obtain ⟨c, ns, x, d, rfl, hc, k, q⟩ := h
    rfl
  · obtain ⟨c, ns, x, d, rfl, hc, k, q⟩ := h
    refine ⟨_, PSs.nox (pss_one (ps_ret (pe_and (pe_callB call_isi (by rfl) T.n_isinstance (by decide +kernel) (pa_cons (pv 1) (pa_cons (pe_bltn (v := .ty "str") (by rfl) T.n_str (by decide +kernel) rfl) pa_nil))) (pe_one (pe_cmpR op_in_seq (pv 1) (pv 0) (by rfl)))))), ?_⟩
    walk_at "rd"
    refine isi_b T.lf k (.inr (.inr (.inl rfl))) ⟨_, rfl, ?_⟩
    cases k with
    | str z => exact iteT (in_crew hc q)
    | @log a dx los fs e => cases los <;> exact iteF q
    | _ => exact iteF q
theorem ok_is_entry {f : Addr} {fd : FuncData} (F : d_is_entry.Is K f fd) (T : Txt K mg)
    (c_is_server : C8.Cal P w K mg base 1 "is_server" (sp_is_server K) [])
    (c_is_natural : C8.Cal P w K mg base 2 "is_natural" (sp_is_natural K) []) :
    FnOk P w K mg base CX0 3 f fd ["servers", "thing"] (sp_is_entry K) := by
  refine F.ok sc_is_entry (fun vs H Q E h => ?_) (fun cdv A outer s H vs Q E hr h => ?_)
  · obtain ⟨c, ns, x, rfl, hc, h⟩ := h
    rfl
  · obtain ⟨c, ns, x, rfl, hc, h⟩ := h
    refine ⟨_, PSs.nox (pss_cons (ps_if (PW.pt (pw_or (pt_not (pt_val (pe_callB call_isi (by rfl) T.n_isinstance (by decide +kernel) (pa_cons (pv 1) (pa_cons (pe_bltn (v := .ty "tuple") (by rfl) T.n_tuple (by decide +kernel) rfl) pa_nil))))) (pw_or1 (pt_cmpR op_ne (pe_callB call_len_seq (by rfl) T.n_len (by decide +kernel) (pa_cons (pv 1) pa_nil)) pe_int (nomark _)))))
          (pss_one (ps_ret pe_bl))
          pss_nil)
        (pss_cons (ps_asg (pv 1) (pg_tup (by rfl) (pgs_cons (pg_name (i := 2) sc_is_entry.nd rfl (Or.inl rfl)) (pgs_cons (pg_name (i := 3) sc_is_entry.nd rfl (Or.inl rfl)) pgs_nil))))
        (pss_one (ps_ret (pe_and (C8.pe_c c_is_server hr (by decide) (by rfl) (pa_cons (pv 0) (pa_cons (pv 2) pa_nil))) (pe_one (C8.pe_c c_is_natural hr (by decide) (by rfl) (pa_cons (pv 3) pa_nil)))))))), ?_⟩
    rcases h with ⟨⟨d, k, h⟩, q⟩ | ⟨t, e, rfl, ht, q⟩
    · rcases h with h | ⟨t, xs, rfl, ht, h⟩
      · walk_at "rd"
        refine isi_b T.lf k (.inr (.inr (.inr (.inr rfl)))) ⟨_, rfl, ifP ?_ q⟩
        cases d with
        | tup => exact absurd rfl h
        | log b => cases b <;> decide +kernel
        | _ => decide +kernel
      · walk_at "rd"
        refine isi_b T.lf (.tup ht) (.inr (.inr (.inr (.inr rfl)))) ⟨_, rfl, ifN (by decide +kernel) ?_⟩
        rcases h with h | ⟨v1, v2, d1, d2, rfl, k1, k2, h⟩
        · exact ⟨_, .inr (.inl (.inl ht)), rfl, _, rfl, ifP (by simp; omega) q⟩
        · refine ⟨_, .inr (.inl (.inl ht)), rfl, _, rfl, ifN (by simp) ⟨_, .inl (.inl ht), rfl, _, _, rfl, _, _, rfl, rfl, ?_⟩⟩
          refine ⟨c, ns, v1, d1, rfl, hc, k1, _, rfl, ite2 (fun h1 => ⟨v2, d2, rfl, k2, ?_⟩) (fun h1 => ?_)⟩
          · have n1 : d1 = .str := by
              cases k1 <;> first | rfl | cases h1
            have n2 : natV v2 = false := by
              have := h.resolve_left (fun g => g n1)
              cases k2 <;> first | rfl | exact absurd rfl this
            rw [n2]
            exact q
          · exact q
    · walk_at "rd"
      refine isi_b T.lf (.tup ht) (.inr (.inr (.inr (.inr rfl)))) ⟨_, rfl, ifN (by decide +kernel) ⟨_, .inr (.inl (.inl ht)), rfl, _, rfl, ifN (by simp) ⟨_, .inl (.inl ht), rfl, _, _, rfl, _, _, rfl, rfl, ?_⟩⟩⟩
      refine ⟨c, ns, _, _, rfl, hc, .str e.1, _, rfl, ite2 (fun h => ⟨_, _, rfl, .int e.2, ?_⟩) (fun h => ?_)⟩
      · unfold enOk at q
        rw [show decide (e.1 ∈ ns) = true from h] at q
        exact q
      · unfold enOk at q
        rw [show decide (e.1 ∈ ns) = false from Bool.eq_false_iff.mpr h] at q
        exact q
theorem ok_check_size {f : Addr} {fd : FuncData} (F : d_check_size.Is K f fd) (T : Txt K mg)
    (c_is_size : C8.Cal P w K mg base 2 "is_size" (sp_is_size K) []) :
    FnOk P w K mg base CX0 3 f fd ["size"] (sp_check_size K) := by
  refine F.ok sc_check_size (fun vs H Q E h => ?_) (fun cdv A outer s H vs Q E hr h => ?_)
  · obtain ⟨z, rfl, ⟨h1, h2⟩, q⟩ := h
    rfl
  · obtain ⟨z, rfl, ⟨h1, h2⟩, q⟩ := h
    refine ⟨_, PSs.nox (pss_one (ps_if (pt_not (pt_val (C8.pe_c c_is_size hr (by decide) (by rfl) (pa_cons (pv 0) pa_nil))))
          (pss_one ps_never)
          pss_nil)), ?_⟩
    walk_at "rd"
    refine ⟨_, _, rfl, .int z, _, rfl, ifN ?_ q⟩
    have e1 : sizeV (.int z) = true := by
      show (decide (1 ≤ z) && decide (z ≤ 10 ^ 30)) = _
      rw [decide_eq_true h1, decide_eq_true h2]
      rfl
    rw [e1]
    decide
theorem ok_check_servers {f : Addr} {fd : FuncData} (F : d_check_servers.Is K f fd) (T : Txt K mg)
    (c_are_servers : C8.Cal P w K mg base 2 "are_servers" (sp_are_servers K) []) :
    FnOk P w K mg base CX0 3 f fd ["servers"] (sp_check_servers K) := by
  refine F.ok sc_check_servers (fun vs H Q E h => ?_) (fun cdv A outer s H vs Q E hr h => ?_)
  · obtain ⟨c, ns, rfl, hc, g, q⟩ := h
    rfl
  · obtain ⟨c, ns, rfl, hc, g, q⟩ := h
    refine ⟨_, PSs.nox (pss_one (ps_if (pt_not (pt_val (C8.pe_c c_are_servers hr (by decide) (by rfl) (pa_cons (pv 0) pa_nil))))
          (pss_one ps_never)
          pss_nil)), ?_⟩
    walk_at "rd"
    exact ⟨c, ns, rfl, hc, g, fun H' e => ⟨_, rfl, ifN (by decide) (q _ e)⟩⟩
theorem ok_check_entries {f : Addr} {fd : FuncData} (F : d_check_entries.Is K f fd) (T : Txt K mg)
    (c_is_entry : C8.Cal P w K mg base 3 "is_entry" (sp_is_entry K) []) :
    FnOk P w K mg base CX0 4 f fd ["servers", "entries"] (sp_check_entries K) := by
  refine F.ok sc_check_entries (fun vs H Q E h => ?_) (fun cdv A outer s H vs Q E hr h => ?_)
  · obtain ⟨c, s', ns, es, rfl, hc, ⟨ts, hs, he⟩, g, q⟩ := h
    rfl
  · obtain ⟨c, s', ns, es, rfl, hc, ⟨ts, hs, he⟩, g, q⟩ := h
    refine ⟨_, PSs.nox (pss_cons (ps_if (PW.pt (pw_or (pt_not (pt_val (pe_callB call_isi (by rfl) T.n_isinstance (by decide +kernel) (pa_cons (pv 1) (pa_cons (pe_bltn (v := .ty "list") (by rfl) T.n_list (by decide +kernel) rfl) pa_nil))))) (pw_or1 (pt_cmpR op_gt (pe_callB call_len_seq (by rfl) T.n_len (by decide +kernel) (pa_cons (pv 1) pa_nil)) (C8.pe_gc (by rfl) T.g_MOST_ENTRIES) (nomark _)))))
          (pss_one ps_never)
          pss_nil)
        (pss_one (ps_if (pt_not (pt_val (pe_callB (cr_all rfl) (by rfl) T.n_all (by decide +kernel) (pa_cons (pe_lc (own := [("entry", 2)]) (g := gName 2) (tt := tYes) (by rfl) sc_check_entries.nd (pi_list (pv 1)) (blkOk_by (N := ["servers", "entries", "entry"]) (sc := defScope s_check_entries) (by decide +kernel)) (fun _ _ _ _ _ => (pg_name (i := 2) sc_check_entries.nd rfl (Or.inl rfl))) (fun _ _ _ _ _ => pts_nil) (fun _ _ _ _ _ => (C8.pe_c c_is_entry hr (by decide) (by rfl) (pa_cons (pv 0) (pa_cons (pv 2) pa_nil))))) pa_nil))))
          (pss_one ps_never)
          pss_nil))), ?_⟩
    walk_at "rd"
    have hl := g.few
    have hn := he.len
    refine isi_b T.lf (.lst hs) (.inr (.inr (.inr (.inl rfl)))) ⟨_, rfl, ifN (by decide +kernel) ⟨_, .inl (SqL.of hs), ifN (by rw [List.length_map]; omega) ⟨⟨_, SqL.of hs⟩, fun L hL => ?_⟩⟩⟩
    refine comp_list (ts.map V.ref) (fun i H' => Same H H' ∧ H' L = some (.lst ((List.replicate i true).map V.bl))) ⟨Same.new (Same.refl _) hL, upd_same⟩ (fun i H' _ z => SqL.of (z.1 _ _ hs)) ?_ ?_
    · rintro i x H' hi ⟨e, h1⟩
      rw [List.getElem?_map] at hi
      obtain ⟨t, ht, rfl⟩ := Option.map_eq_some_iff.mp hi
      walk_at "rd"
      obtain ⟨en, g1, g2⟩ := he.get ht
      have hlt := (List.getElem?_eq_some_iff.mp ht).1
      refine ⟨c, ns, _, rfl, hc.same e, .inr ⟨t, en, rfl, e _ _ g2, _, h1, sz_lt (by rw [List.length_map, List.length_replicate]; omega), Nb.Same.mut e hL, ?_⟩⟩
      rw [upd_same, g.ok en (List.mem_of_getElem? g1), rep_snoc]
      rfl
    · rintro H' ⟨e, h1⟩
      exact rall h1 ⟨_, rfl, ifN (by rw [all_rep]; decide) (q _ e)⟩
theorem ok_check_count {f : Addr} {fd : FuncData} (F : d_check_count.Is K f fd) (T : Txt K mg)
    (c_is_natural : C8.Cal P w K mg base 2 "is_natural" (sp_is_natural K) []) :
    FnOk P w K mg base CX0 3 f fd ["count", "most"] (sp_check_count K) := by
  refine F.ok sc_check_count (fun vs H Q E h => ?_) (fun cdv A outer s H vs Q E hr h => ?_)
  · obtain ⟨i, m, rfl, hi, hm, q⟩ := h
    rfl
  · obtain ⟨i, m, rfl, hi, hm, q⟩ := h
    refine ⟨_, PSs.nox (pss_one (ps_if (PW.pt (pw_or (pt_not (pt_val (C8.pe_c c_is_natural hr (by decide) (by rfl) (pa_cons (pv 0) pa_nil)))) (pw_or1 (pt_cmpR op_gt (pv 0) (pv 1) (nomark _)))))
          (pss_one ps_never)
          pss_nil)), ?_⟩
    walk_at "rd"
    exact ⟨_, _, rfl, .int i, _, rfl, ifN (by simp [natV, hi]) (ifN (by omega) q)⟩
theorem ok_Sight_init {f : Addr} {fd : FuncData} (F : d_Sight_init.Is K f fd) (T : Txt K mg) :
    FnOk P w K mg base CX0 1 f fd ["self", "size", "servers", "entries"] (sp_Sight_init K) := by
  refine F.ok sc_Sight_init (fun vs H Q E h => ?_) (fun cdv A outer s H vs Q E hr h => ?_)
  · obtain ⟨p, dx, z, c, s', ns, es, rfl, hp, hw, hc, hs, q⟩ := h
    rfl
  · obtain ⟨p, dx, z, c, s', ns, es, rfl, hp, hw, hc, hs, q⟩ := h
    refine ⟨_, PSs.nox (pss_cons (ps_fld (pv 0) (pe_callTy call_list_of (by rfl) T.n_list (by decide +kernel) (pa_cons (pv 2) pa_nil)) rfl)
        (pss_cons (ps_fld (pv 0) (pe_callB call_len_seq (by rfl) T.n_len (by decide +kernel) (pa_cons (pv 3) pa_nil)) rfl)
        (pss_cons (ps_fld (pv 0) pe_dnewK rfl)
        (pss_cons (ps_fld (pv 0) (pe_dc (own := [("server", 5)]) (g := gName 5) (tt := tYes) (by rfl) sc_Sight_init.nd (pi_list (pv 2)) (blkOk_by (N := ["self", "size", "servers", "entries", "index", "server", "number", "block"]) (sc := defScope s_Sight_init) (by decide +kernel)) (fun _ _ _ _ _ => (pg_name (i := 5) sc_Sight_init.nd rfl (Or.inl rfl))) (fun _ _ _ _ _ => pts_nil) (fun _ _ _ _ _ => (pv 5)) (fun _ _ _ _ _ => (pe_lst pa_nil))) rfl)
        (pss_one (ps_for PassesOwn.never rfl (pi_enum (by rfl) T.n_enumerate (pa_cons (pv 3) pa_nil)) (pg_tup (by rfl) (pgs_cons (pg_name (i := 4) sc_Sight_init.nd rfl (Or.inl rfl)) (pgs_cons (pg_tup (by rfl) (pgs_cons (pg_name (i := 5) sc_Sight_init.nd rfl (Or.inl rfl)) (pgs_cons (pg_name (i := 6) sc_Sight_init.nd rfl (Or.inl rfl)) pgs_nil))) pgs_nil)))
          (pss_cons (ps_set (i := 7) sc_Sight_init.nd rfl (Or.inl rfl) (pe_op op_fdivW (pv 6) (pv 1)))
          (pss_cons (ps_expr (pe_bm PySem.F.plainAttrs_list PySem.F.slot_list_append PySem.F.type_list_append mt_append (pe_dsetd (pe_fld (pv 0) rfl) (pv 7) (pe_lst pa_nil) ⟨by rfl, by rfl, by rfl, by rfl⟩) (pa_cons (pv 5) pa_nil)))
          (pss_one (ps_expr (pe_bm PySem.F.plainAttrs_list PySem.F.slot_list_append PySem.F.type_list_append mt_append (pe_dget (room1 hr) (pe_fld (pv 0) rfl) (pv 5) (fun _ _ => rfl)) (pa_cons (pe_tup (pa_cons (pv 4) (pa_cons (pv 7) pa_nil))) pa_nil)))))))))))), ?_⟩
    obtain ⟨ts, hs, hes⟩ := hs
    have npc : c ≠ p := ne_of hc hp (by simp)
    have nps : s' ≠ p := ne_of hs hp (by simp)
    have few := hw.en.few
    have hzs := hw.sz
    refine cut_seq (fun σ H' => ∃ nl, σ = [some (.ref p), some (.int z), some (.ref c), some (.ref s'), none, none, none, none] ∧ H' p = some (.ins (CS K) dx [("names", .ref nl)]) ∧ CrewAt H' nl ns ∧ Keep p H H') (fun N hN => ?_) ?_
    · walk_at "rd"
      refine ⟨_, .inl (CrewAt.sq hc), fun l hl => ?_⟩
      have npl : p ≠ l := ne_of_none hp hl
      exact ⟨_, dx, _, upd_keep hp npl, T.sf.cl, T.sf.nN, (by decide), hN _ _ ⟨l, rfl, upd_same, upd_keep upd_same npl.symm, ((Keep.refl p H).new hl).mut⟩⟩
    rintro σ1 H1 ⟨nl, rfl, hp1, hnl, k1⟩
    refine cut_seq (fun σ H' => σ = [some (.ref p), some (.int z), some (.ref c), some (.ref s'), none, none, none, none] ∧ H' p = some (.ins (CS K) dx [("names", .ref nl), ("last_slot", .int (es.length : Int))]) ∧ CrewAt H' nl ns ∧ Keep p H H') (fun N hN => ?_) ?_
    · walk_at "rd"
      have npn : nl ≠ p := ne_of hnl hp1 (by simp)
      refine ⟨_, .inl (SqL.of (k1 _ _ nps hs)), _, dx, _, hp1, T.sf.cl, T.sf.nL, (by show 1 < 1000; decide), hN _ _ ⟨rfl, ?_, upd_keep hnl npn, k1.mut⟩⟩
      rw [upd_same, List.length_map, Ents.len hes]
      rfl
    rintro σ2 H2 ⟨rfl, hp2, hnl2, k2⟩
    refine cut_seq (fun σ H' => ∃ dh, σ = [some (.ref p), some (.int z), some (.ref c), some (.ref s'), none, none, none, none] ∧ H' p = some (.ins (CS K) dx [("names", .ref nl), ("last_slot", .int (es.length : Int)), ("holders", .ref dh)]) ∧ CrewAt H' nl ns ∧ H' dh = some (.dK []) ∧ H dh = none ∧ Keep p H H') (fun N hN => ?_) ?_
    · walk_at "rd"
      intro dh hdh
      have npd : p ≠ dh := ne_of_none hp2 hdh
      have npn : nl ≠ p := ne_of hnl2 hp2 (by simp)
      exact ⟨_, dx, _, upd_keep hp2 npd, T.sf.cl, T.sf.nH, (by show 2 < 1000; decide), hN _ _ ⟨dh, rfl, upd_same, upd_keep (upd_keep hnl2 (ne_of_none hnl2 hdh)) npn, upd_keep upd_same npd.symm, k2.free hp2 hdh, (k2.new hdh).mut⟩⟩
    rintro σ3 H3 ⟨dh, rfl, hp3, hnl3, hdh3, hdf, k3⟩
    refine cut_seq (fun σ H' => ∃ dp own, σ = [some (.ref p), some (.int z), some (.ref c), some (.ref s'), none, none, none, none] ∧ H' p = some (.ins (CS K) dx (fsS nl (es.length : Int) dh dp)) ∧ CrewAt H' nl ns ∧ Dicts H' dh dp z ns [] [] own ∧ own nl = none ∧ (∀ a, own a ≠ none → H a = none) ∧ Keep p H H') (fun N hN => ?_) ?_
    · walk_at "rd"
      refine ⟨_, rfl, _, rfl, ⟨_, SqL.of (k3 _ _ npc hc)⟩, fun D hD => ?_⟩
      have npD : p ≠ D := ne_of_none hp3 hD
      have ndD : dh ≠ D := ne_of_none hdh3 hD
      refine it_list (Pv := fun i H' => H' p = some (.ins (CS K) dx [("names", .ref nl), ("last_slot", .int (es.length : Int)), ("holders", .ref dh)]) ∧ CrewAt H' nl ns ∧ (∃ own, Dicts H' dh D z (ns.take i) [] [] own ∧ own nl = none ∧ (∀ a, own a ≠ none → H a = none)) ∧ (∃ kvs : List (Key × V), H' D = some (.dK kvs) ∧ kvs.length ≤ i) ∧ Keep p H H') ⟨upd_keep hp3 npD, upd_keep hnl3 (ne_of_none hnl3 hD), ⟨fun _ => none, ⟨⟨[], upd_keep hdh3 ndD, Nat.le_refl _, fun q => .inl ⟨rfl, rfl⟩⟩, ⟨[], upd_same, fun n hn => by simp at hn⟩, fun a ha => (ha rfl).elim, ndD, keyI_nil (upd_keep hdh3 ndD)⟩, rfl, fun a ha => (ha rfl).elim⟩, ⟨[], upd_same, Nat.le_refl _⟩, k3.new hD⟩ (fun i H' _ k => SqL.of (k.2.2.2.2 _ _ npc hc)) ?_ ?_
      · rintro i x H' hi ⟨g1, g2, ⟨own, g3, g4, g5⟩, ⟨kvs, g7, g8⟩, g6⟩
        rw [List.getElem?_map] at hi
        obtain ⟨n, hn, rfl⟩ := Option.map_eq_some_iff.mp hi
        have hlt := (List.getElem?_eq_some_iff.mp hn).1
        have f12 := hw.cr.few
        have tk : ns.take (i + 1) = ns.take i ++ [n] := by
          rw [List.take_add_one, hn]
          rfl
        have hno : n ∉ ns.take i := fun hm => by
          have nd := hw.cr.nd
          have hs2 := List.take_append_drop i ns
          rw [← hs2, List.nodup_append] at nd
          refine nd.2.2 n hm n ?_ rfl
          rw [List.drop_eq_getElem_cons hlt, (List.getElem?_eq_some_iff.mp hn).2]
          exact List.mem_cons_self
        walk_at "rd"
        refine ⟨sz_le (by decide), fun l hl => ?_⟩
        have hlf := g6.free g1 hl
        have hDf := k3.free hp3 hD
        have nnD : nl ≠ D := ne_of g2 g7 (by simp)
        have nnl : nl ≠ l := ne_of_none g2 hl
        refine ⟨kvs, .inr n, rfl, upd_keep g7 (ne_of_none g7 hl), sz_lt (by omega), upd_keep (upd_keep g1 (ne_of_none g1 hl)) npD, upd_keep (upd_keep g2 nnl) nnD, ⟨_, by rw [tk]; exact g3.place g7 hno hl, by rw [if_neg nnl]; exact g4, fun a ha => ?_⟩, ⟨_, upd_same, Nat.le_trans (putK_le _ _ _) (by omega)⟩, (g6.new hl).put hDf⟩
        by_cases h : a = l
        · rw [h]
          exact hlf
        · rw [if_neg h] at ha
          exact g5 a ha
      · rintro H' ⟨g1, g2, ⟨own, g3, g4, g5⟩, -, g6⟩
        rw [List.length_map, List.take_length] at g3
        exact ⟨_, _, _, g1, T.sf.cl, T.sf.nP, (by show 3 < 1000; decide), hN _ _ ⟨D, own, rfl, by rw [upd_same, fsS_put], upd_keep g2 (ne_of g2 g1 (by simp)), g3.mutP g1, g4, g5, g6.mut⟩⟩
    rintro σ4 H4 ⟨dp, own, rfl, hp4, hnl4, D4, on4, fr4, k4⟩
    walk_at "rd"
    refine ⟨_, SqL.of (k4 _ _ nps hs), loop_enum (ts.map V.ref) (fun i σ' H' => (∃ t4 t5 t6 t7, σ' = [some (.ref p), some (.int z), some (.ref c), some (.ref s'), t4, t5, t6, t7]) ∧ H' p = some (.ins (CS K) dx (fsS nl (es.length : Int) dh dp)) ∧ CrewAt H' nl ns ∧ (∃ own, Dicts H' dh dp z ns (es.take i) (es.take i) own ∧ own nl = none ∧ (∀ a, own a ≠ none → H a = none)) ∧ Keep p H H') ⟨⟨_, _, _, _, rfl⟩, hp4, hnl4, ⟨own, D4, on4, fr4⟩, k4⟩ (fun i σ' H' _ k => SqL.of (k.2.2.2.2 _ _ nps hs)) ?_ ?_⟩
    · rintro i x σ' H' t hi ⟨⟨t4, t5, t6, t7, rfl⟩, g1, g2, ⟨own, g3, g4, g5⟩, g6⟩ ht
      rw [List.getElem?_map] at hi
      obtain ⟨u, hu, rfl⟩ := Option.map_eq_some_iff.mp hi
      obtain ⟨e, he, hue⟩ := hes.get hu
      have hlt := (List.getElem?_eq_some_iff.mp he).1
      have tk : es.take (i + 1) = es.take i ++ [e] := by
        rw [List.take_add_one, he]
        rfl
      have tl : (es.take i).length = i := by
        rw [List.length_take]
        omega
      have nup : u ≠ p := ne_of hue hp (by simp)
      have g1a := upd_keep (o := .tup [.int (i : Int), .ref u]) g1 (ne_of_none g1 ht)
      have g2a := upd_keep (o := .tup [.int (i : Int), .ref u]) g2 (ne_of_none g2 ht)
      have g3a := g3.same (Same.new (o := .tup [.int (i : Int), .ref u]) (Same.refl _) ht)
      have g6a := g6.new (o := .tup [.int (i : Int), .ref u]) ht
      have hu2 := g6a _ _ nup hue
      have ens : e.1 ∈ ns := by
        have := hw.en.ok e (List.mem_of_getElem? he)
        unfold enOk at this
        simp only [Bool.and_eq_true, decide_eq_true_eq] at this
        exact this.1
      refine ⟨t, _, rfl, SqT.of upd_same, rfl, _, _, rfl, _, _, rfl, u, _, rfl, SqT.of hu2, rfl, _, _, rfl, _, _, rfl, rfl, rfl, ?_⟩
      generalize upd H' t (.tup [.int (i : Int), .ref u]) = Ht at g1a g2a g3a g6a hu2 ⊢
      refine cut_seq (fun σ H'' => σ = [some (.ref p), some (.int z), some (.ref c), some (.ref s'), some (.int (i : Int)), some (.str e.1), some (.int e.2), some (.int (e.2 / z))] ∧ H'' = Ht) (fun N hN => ?_) ?_
      · walk_at "rd"
        exact ⟨div_ok (by have := hzs.1; omega) (Int.le_trans hzs.2 (by decide +kernel)), hN _ _ ⟨rfl, rfl⟩⟩
      rintro σ6 H6 ⟨rfl, rfl⟩
      refine cut_seq (fun σ H'' => σ = [some (.ref p), some (.int z), some (.ref c), some (.ref s'), some (.int (i : Int)), some (.str e.1), some (.int e.2), some (.int (e.2 / z))] ∧ H'' p = some (.ins (CS K) dx (fsS nl (es.length : Int) dh dp)) ∧ CrewAt H'' nl ns ∧ (∃ own, Dicts H'' dh dp z ns (es.take (i + 1)) (es.take i) own ∧ own nl = none ∧ (∀ a, own a ≠ none → H a = none)) ∧ Keep p H H'') (fun N hN => ?_) ?_
      · walk_at "rd"
        obtain ⟨kvs, hk, hkl, hq⟩ := id g3a.hd
        refine ⟨_, _, _, g1a, T.sf.cl, T.sf.nH, _, fsS_holders nl _ dh dp, dh, rfl, .inl ⟨kvs, .inl hk⟩, sz_le (by decide), fun l hl => ?_⟩
        have hlf := g6a.free g1a hl
        refine ⟨kvs, upd_keep hk (ne_of_none hk hl), .inl (e.2 / z), rfl, sz_lt (by rw [List.length_take] at hkl; omega), fun v hv => ?_, fun hv => ?_⟩
        · rcases hq (e.2 / z) with ⟨h1, _⟩ | ⟨a, h1, h2, h3⟩
          · rw [hv] at h1
            cases h1
          · rw [hv] at h1
            cases h1
            have h3l := upd_keep (o := .lst []) h3 (ne_of_none h3 hl)
            have nap : p ≠ a := ne_of g1a h3 (by simp)
            have nan : nl ≠ a := fun eq => by
              rw [← eq, g4] at h2
              cases h2
            have haf : H a = none := g5 a (by rw [h2]; simp)
            have hlh : (hold z (es.take i) (e.2 / z)).length ≤ 200 := by
              unfold hold
              rw [List.length_map]
              exact Nat.le_trans (List.length_filter_le _ _) (by omega)
            refine ⟨.inl ⟨rfl, _, SqL.of h3l⟩, a, _, _, rfl, rfl, h3l, sz_lt (by rw [List.length_map]; omega), hN _ _ ⟨rfl, upd_keep (upd_keep g1a (ne_of_none g1a hl)) nap, upd_keep (upd_keep g2a (ne_of_none g2a hl)) nan, ⟨own, ?_, g4, g5⟩, (g6a.new hl).put haf⟩⟩
            rw [tk]
            exact g3a.hold1 h2 h3 hl hk hv
        · have h4 := (g3a.hold0 (e := e) hl hk hv).2
          have ndl : dh ≠ l := ne_of_none hk hl
          have npd : p ≠ dh := ne_of g1a hk (by simp)
          have nnd : nl ≠ dh := ne_of g2a hk (by simp)
          have nnl : nl ≠ l := ne_of_none g2a hl
          refine ⟨.inl ⟨rfl, _, SqL.of (upd_keep upd_same ndl.symm)⟩, l, [], _, rfl, rfl, upd_keep upd_same ndl.symm, sz_lt (by show 0 < 100000; decide), hN _ _ ⟨rfl, upd_keep (upd_keep (upd_keep g1a (ne_of_none g1a hl)) npd) (ne_of_none g1a hl), upd_keep (upd_keep (upd_keep g2a nnl) nnd) nnl, ⟨_, by rw [tk]; exact h4, by rw [if_neg nnl]; exact g4, fun a ha => ?_⟩, ((g6a.new hl).put hdf).put hlf⟩⟩
          by_cases h : a = l
          · rw [h]
            exact hlf
          · rw [if_neg h] at ha
            exact g5 a ha
      rintro σ7 H7 ⟨rfl, f1, f2, ⟨own7, f3, f4, f5⟩, f6⟩
      walk_at "rd"
      obtain ⟨kws, hk, hq⟩ := id f3.pl
      obtain ⟨a, us, x1, x2, x3, x4⟩ := hq e.1 ens
      have nap : p ≠ a := ne_of f1 x3 (by simp)
      have nan : nl ≠ a := fun eq => by
        rw [← eq, f4] at x2
        cases x2
      have haf : H a = none := f5 a (by rw [x2]; simp)
      have hul : us.length ≤ 200 := by
        have h1 := x4.len
        have h2 := plc_len z e.1 (es.take i) 0
        rw [tl] at h2
        omega
      refine ⟨_, _, _, f1, T.sf.cl, T.sf.nP, _, fsS_places nl _ dh dp, dp, rfl, _, .inl ⟨kws, .inr e.1, .inl hk, rfl, x1.symm⟩, .inl ⟨rfl, _, SqL.of x3⟩, sz_le (by decide), fun t2 ht2 => ⟨a, _, _, rfl, rfl, upd_keep x3 (ne_of_none x3 ht2), sz_lt (by rw [List.length_map]; omega), ?_⟩⟩
      have h9 := f3.place1 x2 x3 x4 ht2 hk x1
      rw [tl, ← tk] at h9
      refine ⟨?_, upd_keep (upd_keep f1 (ne_of_none f1 ht2)) nap, upd_keep (upd_keep f2 (ne_of_none f2 ht2)) nan, ⟨own7, h9, f4, f5⟩, (f6.new ht2).put haf⟩
      first | exact ⟨_, _, _, _, rfl⟩ | simp
    · rintro σ' H' ⟨⟨t4, t5, t6, t7, rfl⟩, g1, g2, ⟨own, g3, g4, g5⟩, g6⟩
      rw [List.length_map, Ents.len hes, List.take_length] at g3
      walk_at "rd"
      exact q _ g6 ⟨dx, nl, dh, dp, own, g1, g2, g3, hw⟩
theorem ok_Sight_window_of {f : Addr} {fd : FuncData} (F : d_Sight_window_of.Is K f fd) (T : Txt K mg) :
    FnOk P w K mg base CX0 1 f fd ["self", "server", "block"] (sp_Sight_window_of K) := by
  refine F.ok sc_Sight_window_of (fun vs H Q E h => ?_) (fun cdv A outer s H vs Q E hr h => ?_)
  · obtain ⟨p, z, ns, es, n, far, rfl, hp, hn, q⟩ := h
    rfl
  · obtain ⟨p, z, ns, es, n, far, rfl, hp, hn, q⟩ := h
    refine ⟨_, PSs.nox (pss_cons (ps_if (pt_val (pe_callB (cr_any rfl) (by rfl) T.n_any (by decide +kernel) (pa_cons (pe_lc (own := [("holder", 7)]) (g := gName 7) (tt := tYes) (by rfl) sc_Sight_window_of.nd (pi_list (pe_dget2 (room1 hr) (pe_fld (pv 0) rfl) (pv 2) (pe_lst pa_nil) ⟨by rfl, by rfl, by rfl, by rfl⟩)) (blkOk_by (N := ["self", "server", "block", "low", "high", "index", "seen", "holder"]) (sc := defScope s_Sight_window_of) (by decide +kernel)) (fun _ _ _ _ _ => (pg_name (i := 7) sc_Sight_window_of.nd rfl (Or.inl rfl))) (fun _ _ _ _ _ => pts_nil) (fun _ _ _ _ _ => (pe_cmpR op_ne (pv 7) (pv 1) (nomark _)))) pa_nil)))
          (pss_one (ps_ret pe_non))
          pss_nil)
        (pss_cons (ps_set (i := 3) sc_Sight_window_of.nd rfl (Or.inl rfl) pe_int)
        (pss_cons (ps_set (i := 4) sc_Sight_window_of.nd rfl (Or.inl rfl) (pe_fld (pv 0) rfl))
        (pss_cons (ps_for PassesOwn.never rfl (pi_list (pe_dget (room1 hr) (pe_fld (pv 0) rfl) (pv 1) (fun _ _ => rfl))) (pg_tup (by rfl) (pgs_cons (pg_name (i := 5) sc_Sight_window_of.nd rfl (Or.inl rfl)) (pgs_cons (pg_name (i := 6) sc_Sight_window_of.nd rfl (Or.inl rfl)) pgs_nil)))
          (pss_one (ps_if (pt_cmpR op_lt (pv 6) (pv 2) (nomark _))
            (pss_one (ps_set (i := 3) sc_Sight_window_of.nd rfl (Or.inl rfl) (pe_op op_add (pv 5) pe_int)))
            (pss_one (ps_set (i := 4) sc_Sight_window_of.nd rfl (Or.inl rfl) (pe_callB (call_min2 rfl) (by rfl) T.n_min (by decide +kernel) (pa_cons (pv 4) (pa_cons (pv 5) pa_nil))))))))
        (pss_one (ps_ret (pe_tup (pa_cons (pv 3) (pa_cons (pv 4) pa_nil))))))))), ?_⟩
    obtain ⟨dx, nl, dh, dp, own, h1, hnl, D, hw⟩ := id hp
    have few := hw.en.few
    refine cut_seq (fun σ H' => σ = [some (.ref p), some (.str n), some (.int far), none, none, none, none, none] ∧ ((hold z es far).any fun x => x != n) = false ∧ Same H H') (fun N hN => ?_) ?_
    · walk_at "rd"
      refine ⟨_, _, _, h1, T.sf.cl, T.sf.nH, _, fsS_holders nl _ dh dp, dh, rfl, ?_, sz_le (by decide), fun p1 hp1 => ?_⟩
      · obtain ⟨kvs, g1, _⟩ := D.hd
        exact .inl ⟨kvs, .inl g1⟩
      have e1 : Same H (upd H p1 (.lst [])) := Same.new (Same.refl _) hp1
      obtain ⟨kvs, g1, a, g2, g3⟩ := (D.same e1).held far upd_same
      refine ⟨_, .inl ⟨kvs, .inl far, .inl g1, rfl, rfl⟩, a, g2, ⟨_, SqL.of g3⟩, fun L hL => ?_⟩
      have hh : (hold z es far).length ≤ 200 := by
        unfold hold
        rw [List.length_map]
        exact Nat.le_trans (List.length_filter_le _ _) few
      refine comp_list ((hold z es far).map V.str) (fun i H' => Same (upd H p1 (.lst [])) H' ∧ H' L = some (.lst ((((hold z es far).take i).map fun x => x != n).map V.bl))) ⟨Same.new (Same.refl _) hL, upd_same⟩ (fun i H' _ k => SqL.of (k.1 _ _ g3)) ?_ ?_
      · rintro i x H' hi ⟨e, k1⟩
        rw [List.getElem?_map] at hi
        obtain ⟨y, hy, rfl⟩ := Option.map_eq_some_iff.mp hi
        walk_at "rd"
        have hlt := (List.getElem?_eq_some_iff.mp hy).1
        refine ⟨rfl, _, k1, sz_lt (by rw [List.length_map, List.length_map, List.length_take]; omega), Nb.Same.mut e hL, ?_⟩
        have eq1 : (!decide (V.str y = V.str n)) = (y != n) := by
          by_cases h : y = n
          · subst h
            simp
          · have h2 : ¬ (V.str y = V.str n) := fun g => h (by injection g)
            simp [h, h2]
        rw [upd_same, List.take_add_one, hy, eq1]
        simp
      · rintro H' ⟨e, k1⟩
        refine ⟨L, ((hold z es far).map fun x => x != n), rfl, SqL.of (by rw [k1, List.length_map, List.take_length]), _, rfl, ?_⟩
        have ea : (((hold z es far).map fun x => x != n).any id) = ((hold z es far).any fun x => x != n) := by
          rw [List.any_map]
          rfl
        rw [ea]
        refine ite2 (fun h => ?_) (fun h => ?_)
        · refine q _ _ (e1.trans e) ?_
          unfold winD
          rw [if_pos h]
          exact .non
        · exact hN _ _ ⟨rfl, Bool.eq_false_iff.mpr h, e1.trans e⟩
    rintro σ1 H1 ⟨rfl, ha, e1⟩
    have D1 := D.same e1
    obtain ⟨kws, g1, g2⟩ := D1.pl
    obtain ⟨a, ts, x1, x2, x3, x4⟩ := g2 n hn
    have hln := x4.len
    walk_at "rd"
    refine ⟨_, _, _, e1 _ _ h1, T.sf.cl, T.sf.nL, _, fsS_last nl _ dh dp, _, _, _, e1 _ _ h1, T.sf.cl, T.sf.nP, _, fsS_places nl _ dh dp, dp, rfl, _, .inl ⟨kws, .inr n, .inl g1, rfl, x1.symm⟩, a, rfl, ⟨_, SqL.of x3⟩, ?_⟩
    refine loop_list (ts.map V.ref) (fun i σ' H' => (∃ t5 t6 t7, σ' = [some (.ref p), some (.str n), some (.int far), some (.int (low far ((plc z n 0 es).take i) 0)), some (.int (high far ((plc z n 0 es).take i) (es.length : Int))), t5, t6, t7]) ∧ Same H1 H') ⟨⟨_, _, _, rfl⟩, Same.refl _⟩ (fun i σ' H' _ k => SqL.of (k.2 _ _ x3)) ?_ ?_
    · rintro i x σ' H' hi ⟨⟨t5, t6, t7, rfl⟩, e⟩
      rw [List.getElem?_map] at hi
      obtain ⟨t, ht, rfl⟩ := Option.map_eq_some_iff.mp hi
      obtain ⟨⟨j, b⟩, k1, k2⟩ := x4.get ht
      have tk : (plc z n 0 es).take (i + 1) = (plc z n 0 es).take i ++ [(j, b)] := by
        rw [List.take_add_one, k1]
        rfl
      rw [tk, low_app, high_app]
      walk_at "rd"
      refine ⟨_, SqT.of (e _ _ k2), rfl, _, _, rfl, _, _, rfl, rfl, b, rfl, ite2 (fun h => ?_) (fun h => ?_)⟩
      · rw [if_pos h, if_pos h]
        exact ⟨j, rfl, ⟨rfl, rfl, _, rfl⟩, e⟩
      · rw [if_neg h, if_neg h]
        refine ⟨_, j, ⟨rfl, rfl⟩, ⟨rfl, ?_, _, rfl⟩, e⟩
        rw [Int.min_def]
        by_cases h2 : j < high far ((plc z n 0 es).take i) (es.length : Int)
        · rw [if_pos h2, if_neg (by omega)]
        · rw [if_neg h2]
          by_cases h3 : high far ((plc z n 0 es).take i) (es.length : Int) ≤ j
          · rw [if_pos h3]
          · omega
    · rintro σ' H' ⟨⟨t5, t6, t7, rfl⟩, e⟩
      have tk : (plc z n 0 es).take (ts.map V.ref).length = plc z n 0 es := by
        rw [List.length_map, hln, List.take_length]
      rw [tk]
      walk_at "rd"
      refine ⟨sz_le (by decide), fun p2 hp2 => q _ _ (Same.new (e1.trans e) hp2) ?_⟩
      unfold winD
      rw [if_neg (by rw [ha]; decide)]
      exact .tup (SqT.of upd_same) (.cons (.int _) (.cons (.int _) .nil))
theorem ok_Sight_windows_of {f : Addr} {fd : FuncData} (F : d_Sight_windows_of.Is K f fd) (T : Txt K mg)
    (c_Sight_window_of : C8.CalAt P w K mg base 1 (d_Sight_window_of.way K) (sp_Sight_window_of K)) :
    FnOk P w K mg base CX0 3 f fd ["self", "block"] (sp_Sight_windows_of K) := by
  refine F.ok sc_Sight_windows_of (fun vs H Q E h => ?_) (fun cdv A outer s H vs Q E hr h => ?_)
  · obtain ⟨p, z, ns, es, qb, rfl, hp, q⟩ := h
    rfl
  · obtain ⟨p, z, ns, es, qb, rfl, hp, q⟩ := h
    refine ⟨_, PSs.nox (pss_cons (ps_setLc (i := 2) (own := [("name", 3)]) (g := gName 3) (tt := tYes) (by rfl) sc_Sight_windows_of.nd rfl rfl (sw_true rfl rfl rfl (by decide +kernel)) (pi_list (pe_fld (pv 0) rfl)) (blkOk_by (N := ["self", "block", "found", "name", "pair"]) (sc := defScope s_Sight_windows_of) (by decide +kernel)) (fun _ _ _ _ _ => (pg_name (i := 3) sc_Sight_windows_of.nd rfl (Or.inl rfl))) (fun _ _ _ _ _ => pts_nil) (fun _ _ _ _ _ => (pe_mt2 T.m_Sight_window_of c_Sight_window_of hr (by decide) (pv 0) (pa_cons (pv 3) (pa_cons (pv 1) pa_nil)))))
        (pss_one (ps_ret (pe_lc (own := [("pair", 4)]) (g := gName 4) (by rfl) sc_Sight_windows_of.nd (pi_list (pv 2)) (blkOk_by (N := ["self", "block", "found", "name", "pair"]) (sc := defScope s_Sight_windows_of) (by decide +kernel)) (fun _ _ _ _ _ => (pg_name (i := 4) sc_Sight_windows_of.nd rfl (Or.inl rfl))) (fun _ _ _ _ _ => (pts_one (pt_cmpR op_notN (pv 4) pe_non (nomark _)))) (fun _ _ _ _ _ => (pv 4)))))), ?_⟩
    obtain ⟨dx, nl, dh, dp, own, h1, hnl, D, hw⟩ := id hp
    have few := hw.cr.few
    refine cut_seq (fun σ H' => ∃ (fo : Addr) (vs : List V), σ = [some (.ref p), some (.int qb), some (.ref fo), none, none] ∧ H fo = none ∧ H' fo = some (.lst vs) ∧ DpAll K H' vs ((ns.map fun n => winO z es n qb).map duD) ∧ Same H H') (fun N hN => ?_) ?_
    · walk_at "rd"
      refine ⟨_, _, _, h1, T.sf.cl, T.sf.nN, _, fsS_names nl _ dh dp, nl, rfl, ⟨_, SqL.of hnl⟩, fun L hL => ?_⟩
      refine comp_list (ns.map V.str) (fun i H' => Same H H' ∧ ∃ vs, H' L = some (.lst vs) ∧ vs.length = i ∧ DpAll K H' vs (((ns.take i).map fun n => winO z es n qb).map duD)) ⟨Same.new (Same.refl _) hL, [], upd_same, rfl, .nil⟩ (fun i H' _ k => SqL.of (k.1 _ _ hnl)) ?_ ?_
      · rintro i x H' hi ⟨e, vs, g1, g2, g3⟩
        rw [List.getElem?_map] at hi
        obtain ⟨n, hn, rfl⟩ := Option.map_eq_some_iff.mp hi
        have hlt := (List.getElem?_eq_some_iff.mp hn).1
        walk_at "rd"
        refine ⟨true, dx, _, e _ _ h1, fsS_no _ _ _ _, p, z, ns, es, n, qb, rfl, hp.same e, List.mem_of_getElem? hn, fun v H2 e2 d2 => ⟨vs, e2 _ _ g1, sz_lt (by omega), Nb.Same.mut (e.trans e2) hL, vs ++ [v], upd_same, by rw [List.length_append, g2]; rfl, ?_⟩⟩
        rw [winD_eq] at d2
        rw [List.take_add_one, hn, List.map_append, List.map_append]
        exact dps_snoc (dp_du (e2 _ _ g1) d2) (dps_du (e2 _ _ g1) (dpAll_same e2 _ _ g3))
      · rintro H' ⟨e, vs, g1, g2, g3⟩
        rw [List.length_map, List.take_length] at g3
        exact hN _ _ ⟨L, vs, rfl, hL, g1, g3, e⟩
    rintro σ1 H1 ⟨fo, vs, rfl, fn, hfo, hvs, e1⟩
    walk_at "rd"
    have hl := dps_len hvs
    rw [List.length_map, List.length_map] at hl
    refine ⟨⟨_, SqL.of hfo⟩, fun L hL => ?_⟩
    refine comp_list vs (fun i H' => Same H1 H' ∧ ∃ us : List V, H' L = some (.lst us) ∧ us.length ≤ i ∧ DpAll K H' us ((wins z es (ns.take i) qb).map p2D)) ⟨Same.new (Same.refl _) hL, [], upd_same, Nat.le_refl _, .nil⟩ (fun i H' _ k => SqL.of (k.1 _ _ hfo)) ?_ ?_
    · rintro i x H' hi ⟨e, us, g1, g2, g3⟩
      obtain ⟨d, k1, k2⟩ := dps_get (dpAll_same e _ _ hvs) hi
      rw [List.getElem?_map, List.getElem?_map] at k1
      obtain ⟨w, k3, rfl⟩ := Option.map_eq_some_iff.mp k1
      obtain ⟨n, hn, rfl⟩ := Option.map_eq_some_iff.mp k3
      have hlt := (List.getElem?_eq_some_iff.mp hi).1
      have hw1 : wins z es (ns.take (i + 1)) qb = wins z es (ns.take i) qb ++ (winO z es n qb).toList := by
        unfold wins
        rw [List.take_add_one, hn, List.filterMap_append]
        show _ ++ List.filterMap (fun n => winO z es n qb) [n] = _
        rw [List.filterMap_cons]
        cases winO z es n qb <;> rfl
      rw [hw1]
      walk_at "rd"
      cases hwo : winO z es n qb with
      | none =>
        rw [hwo] at k2
        cases k2
        refine ifN (by decide) ⟨e, us, g1, by omega, ?_⟩
        rw [Option.toList, List.append_nil]
        exact g3
      | some pr =>
        rw [hwo] at k2
        obtain ⟨t, rfl, ht⟩ := dp_pr (p := pr) k2
        refine ifP (by simp) ⟨us, g1, sz_lt (by omega), Nb.Same.mut e hL, us ++ [.ref t], upd_same, by rw [List.length_append, List.length_singleton]; omega, ?_⟩
        rw [List.map_append]
        exact dps_snoc (dp_du (w := some pr) g1 k2) (dps_pr g1 g3)
    · rintro H' ⟨e, us, g1, g2, g3⟩
      rw [hl, List.take_length] at g3
      exact q L us H' (e1.free hL) (e1.trans e) g1 g3
theorem ok_Sight_slot_from {f : Addr} {fd : FuncData} (F : d_Sight_slot_from.Is K f fd) (T : Txt K mg)
    (c_Sight_windows_of : C8.CalAt P w K mg base 3 (d_Sight_windows_of.way K) (sp_Sight_windows_of K)) :
    FnOk P w K mg base CX0 5 f fd ["self", "block", "slot"] (sp_Sight_slot_from K) := by
  refine F.ok sc_Sight_slot_from (fun vs H Q E h => ?_) (fun cdv A outer s H vs Q E hr h => ?_)
  · obtain ⟨p, z, ns, es, qb, sl, rfl, hp, q⟩ := h
    rfl
  · obtain ⟨p, z, ns, es, qb, sl, rfl, hp, q⟩ := h
    refine ⟨_, PSs.nox (pss_cons (ps_set (i := 3) sc_Sight_slot_from.nd rfl (Or.inl rfl) (pe_op op_add (pe_fld (pv 0) rfl) pe_int))
        (pss_cons (ps_for PassesOwn.never rfl (pi_list (pe_mt2 T.m_Sight_windows_of c_Sight_windows_of hr (by decide) (pv 0) (pa_cons (pv 1) pa_nil))) (pg_tup (by rfl) (pgs_cons (pg_name (i := 4) sc_Sight_slot_from.nd rfl (Or.inl rfl)) (pgs_cons (pg_name (i := 5) sc_Sight_slot_from.nd rfl (Or.inl rfl)) pgs_nil)))
          (pss_one (ps_if (pt_cmpR op_le (pe_callB (call_max2 rfl) (by rfl) T.n_max (by decide +kernel) (pa_cons (pv 4) (pa_cons (pv 2) pa_nil))) (pv 5) (nomark _))
            (pss_one (ps_set (i := 3) sc_Sight_slot_from.nd rfl (Or.inl rfl) (pe_callB (call_min2 rfl) (by rfl) T.n_min (by decide +kernel) (pa_cons (pv 3) (pa_cons (pe_callB (call_max2 rfl) (by rfl) T.n_max (by decide +kernel) (pa_cons (pv 4) (pa_cons (pv 2) pa_nil))) pa_nil)))))
            pss_nil)))
        (pss_one (ps_ret (pv 3))))), ?_⟩
    obtain ⟨dx, nl, dh, dp, own, h1, hnl, D, hw⟩ := id hp
    have few := hw.cr.few
    walk_at "rd"
    refine ⟨_, dx, _, h1, T.sf.cl, T.sf.nL, _, fsS_last nl _ dh dp, _, rfl, true, dx, _, h1, fsS_noM (by decide +kernel) (by decide +kernel) (by decide +kernel) (by decide +kernel) _ _ _ _, p, z, ns, es, qb, rfl, hp, fun a vs H1 ha e1 hv hvs => ⟨a, rfl, ⟨_, SqL.of hv⟩, ?_⟩⟩
    have hl := dps_len hvs
    have hl2 := len_wins z es ns qb
    rw [List.length_map] at hl
    refine loop_list vs (fun i σ' H' => (∃ f t4 t5, σ' = [some (.ref p), some (.int qb), some (.int sl), some (.int f), t4, t5] ∧ slotF sl ((wins z es ns qb).drop i) f = sFrom z ns es qb sl) ∧ Same H1 H') ⟨⟨_, _, _, rfl, rfl⟩, Same.refl _⟩ (fun i σ' H' _ k => SqL.of (k.2 _ _ hv)) ?_ ?_
    · rintro i x σ' H' hi ⟨⟨f, t4, t5, rfl, hf⟩, e⟩
      obtain ⟨d, k1, k2⟩ := dps_get (dpAll_same e _ _ hvs) hi
      rw [List.getElem?_map] at k1
      obtain ⟨pr, k3, rfl⟩ := Option.map_eq_some_iff.mp k1
      obtain ⟨t, rfl, ht⟩ := dp_pr k2
      rw [drop_one k3, slotF_cons] at hf
      walk_at "rd"
      refine ⟨_, ht, rfl, _, _, rfl, _, _, rfl, rfl, _, _, ⟨rfl, rfl⟩, _, rfl, ?_⟩
      rw [gt_max]
      refine ite2 (fun h => ?_) (fun h => ?_)
      · rw [if_pos h] at hf
        refine ⟨_, _, ⟨rfl, rfl⟩, _, _, ⟨rfl, rfl⟩, ?_⟩
        rw [gt_max, lt_min]
        exact ⟨⟨_, _, _, ⟨rfl, rfl, rfl⟩, hf⟩, e⟩
      · rw [if_neg h] at hf
        exact ⟨⟨_, _, _, ⟨rfl, rfl, rfl⟩, hf⟩, e⟩
    · rintro σ' H' ⟨⟨f, t4, t5, rfl, hf⟩, e⟩
      rw [hl, List.drop_length] at hf
      walk_at "rd"
      rw [show f = sFrom z ns es qb sl from hf]
      exact q _ (e1.trans e)
theorem ok_Sight_slot_up_to {f : Addr} {fd : FuncData} (F : d_Sight_slot_up_to.Is K f fd) (T : Txt K mg)
    (c_Sight_windows_of : C8.CalAt P w K mg base 3 (d_Sight_windows_of.way K) (sp_Sight_windows_of K)) :
    FnOk P w K mg base CX0 5 f fd ["self", "block", "slot"] (sp_Sight_slot_up_to K) := by
  refine F.ok sc_Sight_slot_up_to (fun vs H Q E h => ?_) (fun cdv A outer s H vs Q E hr h => ?_)
  · obtain ⟨p, z, ns, es, qb, sl, rfl, hp, q⟩ := h
    rfl
  · obtain ⟨p, z, ns, es, qb, sl, rfl, hp, q⟩ := h
    refine ⟨_, PSs.nox (pss_cons (ps_set (i := 3) sc_Sight_slot_up_to.nd rfl (Or.inl rfl) (pe_un un_neg pe_int))
        (pss_cons (ps_for PassesOwn.never rfl (pi_list (pe_mt2 T.m_Sight_windows_of c_Sight_windows_of hr (by decide) (pv 0) (pa_cons (pv 1) pa_nil))) (pg_tup (by rfl) (pgs_cons (pg_name (i := 4) sc_Sight_slot_up_to.nd rfl (Or.inl rfl)) (pgs_cons (pg_name (i := 5) sc_Sight_slot_up_to.nd rfl (Or.inl rfl)) pgs_nil)))
          (pss_one (ps_if (pt_cmpR op_le (pv 4) (pe_callB (call_min2 rfl) (by rfl) T.n_min (by decide +kernel) (pa_cons (pv 5) (pa_cons (pv 2) pa_nil))) (nomark _))
            (pss_one (ps_set (i := 3) sc_Sight_slot_up_to.nd rfl (Or.inl rfl) (pe_callB (call_max2 rfl) (by rfl) T.n_max (by decide +kernel) (pa_cons (pv 3) (pa_cons (pe_callB (call_min2 rfl) (by rfl) T.n_min (by decide +kernel) (pa_cons (pv 5) (pa_cons (pv 2) pa_nil))) pa_nil)))))
            pss_nil)))
        (pss_one (ps_ret (pv 3))))), ?_⟩
    obtain ⟨dx, nl, dh, dp, own, h1, hnl, D, hw⟩ := id hp
    have few := hw.cr.few
    walk_at "rd"
    refine ⟨true, dx, _, h1, fsS_noM (by decide +kernel) (by decide +kernel) (by decide +kernel) (by decide +kernel) _ _ _ _, p, z, ns, es, qb, rfl, hp, fun a vs H1 ha e1 hv hvs => ⟨a, rfl, ⟨_, SqL.of hv⟩, ?_⟩⟩
    have hl := dps_len hvs
    have hl2 := len_wins z es ns qb
    rw [List.length_map] at hl
    refine loop_list vs (fun i σ' H' => (∃ f t4 t5, σ' = [some (.ref p), some (.int qb), some (.int sl), some (.int f), t4, t5] ∧ slotU sl ((wins z es ns qb).drop i) f = sUpTo z ns es qb sl) ∧ Same H1 H') ⟨⟨_, _, _, rfl, rfl⟩, Same.refl _⟩ (fun i σ' H' _ k => SqL.of (k.2 _ _ hv)) ?_ ?_
    · rintro i x σ' H' hi ⟨⟨f, t4, t5, rfl, hf⟩, e⟩
      obtain ⟨d, k1, k2⟩ := dps_get (dpAll_same e _ _ hvs) hi
      rw [List.getElem?_map] at k1
      obtain ⟨pr, k3, rfl⟩ := Option.map_eq_some_iff.mp k1
      obtain ⟨t, rfl, ht⟩ := dp_pr k2
      rw [drop_one k3, slotU_cons] at hf
      walk_at "rd"
      refine ⟨_, ht, rfl, _, _, rfl, _, _, rfl, rfl, _, _, ⟨rfl, rfl⟩, _, rfl, ?_⟩
      rw [lt_min]
      refine ite2 (fun h => ?_) (fun h => ?_)
      · rw [if_pos h] at hf
        refine ⟨_, _, ⟨rfl, rfl⟩, _, _, ⟨rfl, rfl⟩, ?_⟩
        rw [lt_min, gt_max]
        exact ⟨⟨_, _, _, ⟨rfl, rfl, rfl⟩, hf⟩, e⟩
      · rw [if_neg h] at hf
        exact ⟨⟨_, _, _, ⟨rfl, rfl, rfl⟩, hf⟩, e⟩
    · rintro σ' H' ⟨⟨f, t4, t5, rfl, hf⟩, e⟩
      rw [hl, List.drop_length] at hf
      walk_at "rd"
      rw [show f = sUpTo z ns es qb sl from hf]
      exact q _ (e1.trans e)
theorem ok_Sight_span_starts {f : Addr} {fd : FuncData} (F : d_Sight_span_starts.Is K f fd) (T : Txt K mg) :
    FnOk P w K mg base CX0 1 f fd ["self"] (sp_Sight_span_starts K) := by
  refine F.ok sc_Sight_span_starts (fun vs H Q E h => ?_) (fun cdv A outer s H vs Q E hr h => ?_)
  · obtain ⟨p, z, ns, es, rfl, hp, q⟩ := h
    rfl
  · obtain ⟨p, z, ns, es, rfl, hp, q⟩ := h
    refine ⟨_, PSs.nox (pss_cons (ps_set (i := 1) sc_Sight_span_starts.nd rfl (Or.inl rfl) (pe_lst pa_nil))
        (pss_cons (ps_set (i := 2) sc_Sight_span_starts.nd rfl (Or.inl rfl) pe_int)
        (pss_cons (ps_for PassesOwn.never rfl (pi_list (pe_callB (NbY.cr_sortDI rfl) (by rfl) T.n_sorted (by decide +kernel) (pa_cons (pe_fld (pv 0) rfl) pa_nil))) (pg_name (i := 3) sc_Sight_span_starts.nd rfl (Or.inl rfl))
          (pss_cons (ps_if (pt_cmpR op_lt (pv 2) (pv 3) (nomark _))
            (pss_one (ps_expr (pe_bm PySem.F.plainAttrs_list PySem.F.slot_list_append PySem.F.type_list_append mt_append (pv 1) (pa_cons (pv 2) pa_nil))))
            pss_nil)
          (pss_cons (ps_expr (pe_bm PySem.F.plainAttrs_list PySem.F.slot_list_append PySem.F.type_list_append mt_append (pv 1) (pa_cons (pv 3) pa_nil)))
          (pss_one (ps_set (i := 2) sc_Sight_span_starts.nd rfl (Or.inl rfl) (pe_op op_add (pv 3) pe_int))))))
        (pss_one (ps_ret (pv 1)))))), ?_⟩
    obtain ⟨dx, nl, dh, dp, own, h1, hnl, D, hw⟩ := id hp
    have few := hw.en.few
    walk_at "rd"
    refine ⟨sz_le (by decide), fun a ha => ?_⟩
    have e1 := Same.new (o := .lst []) (Same.refl H) ha
    obtain ⟨kvs, ks, k1, k2, k3, k4, k5⟩ := NbM.Dicts.seen (D.same e1)
    refine ⟨_, dx, _, e1 _ _ h1, T.sf.cl, T.sf.nH, _, fsS_holders nl _ dh dp, dh, kvs, ks, rfl, .inl k1, k2, k3, by omega, fun ys b hpm hlt hb => ?_⟩
    have hys := k5 ys hpm hlt
    subst hys
    have e2 := Same.new (o := .lst ((NbM.seen z es).map V.int)) e1 hb
    have nab : a ≠ b := ne_of_none upd_same hb
    have ls := len_seen z es
    have lst := len_starts z es
    refine ⟨b, rfl, ⟨_, SqL.of upd_same⟩, loop_list ((NbM.seen z es).map V.int) (fun i σ' H' => (∃ f acc t3, σ' = [some (.ref p), some (.ref a), some (.int f), t3] ∧ H' a = some (.lst (acc.map V.int)) ∧ acc ++ startsG f ((NbM.seen z es).drop i) = starts z es) ∧ H' b = some (.lst ((NbM.seen z es).map V.int)) ∧ Same H H') ⟨⟨0, [], _, rfl, upd_keep upd_same nab, rfl⟩, upd_same, e2⟩ (fun i σ' H' _ k => SqL.of k.2.1) ?_ ?_⟩
    · rintro i x σ' H' hi ⟨⟨f, acc, t3, rfl, g1, g2⟩, g3, e⟩
      rw [List.getElem?_map] at hi
      obtain ⟨bk, hbk, rfl⟩ := Option.map_eq_some_iff.mp hi
      rw [drop_one hbk, startsG_cons] at g2
      have la : acc.length ≤ 400 := by
        have := congrArg List.length g2
        rw [List.length_append] at this
        omega
      walk_at "rd"
      refine ite2 (fun h => ?_) (fun h => ?_)
      · rw [if_pos h] at g2
        refine ⟨.inl ⟨rfl, _, SqL.of g1⟩, a, _, _, rfl, rfl, g1, sz_lt (by rw [List.length_map]; omega), .inl ⟨rfl, _, SqL.of upd_same⟩, a, _, _, rfl, rfl, upd_same, sz_lt (by rw [List.length_append, List.length_map, List.length_singleton]; omega), ⟨_, acc ++ [f, bk], _, ⟨rfl, rfl⟩, ?_, by rw [List.append_assoc]; exact g2⟩, upd_keep (upd_keep g3 nab.symm) nab.symm, Nb.Same.mut (Nb.Same.mut e ha) ha⟩
        rw [upd_same, List.map_append, List.append_assoc]
        rfl
      · rw [if_neg h] at g2
        refine ⟨.inl ⟨rfl, _, SqL.of g1⟩, a, _, _, rfl, rfl, g1, sz_lt (by rw [List.length_map]; omega), ⟨_, acc ++ [bk], _, ⟨rfl, rfl⟩, ?_, by rw [List.append_assoc]; exact g2⟩, upd_keep g3 nab.symm, Nb.Same.mut e ha⟩
        rw [upd_same, List.map_append]
        rfl
    · rintro σ' H' ⟨⟨f, acc, t3, rfl, g1, g2⟩, g3, e⟩
      rw [List.length_map, List.drop_length] at g2
      walk_at "rd"
      have g4 : acc = starts z es := by rw [← g2]; exact (List.append_nil _).symm
      rw [g4] at g1
      exact q a H' ha e g1
theorem ok_Sight_whole_spans {f : Addr} {fd : FuncData} (F : d_Sight_whole_spans.Is K f fd) (T : Txt K mg)
    (c_Sight_span_starts : C8.CalAt P w K mg base 1 (d_Sight_span_starts.way K) (sp_Sight_span_starts K)) :
    FnOk P w K mg base CX0 3 f fd ["self"] (sp_Sight_whole_spans K) := by
  refine F.ok sc_Sight_whole_spans (fun vs H Q E h => ?_) (fun cdv A outer s H vs Q E hr h => ?_)
  · obtain ⟨p, z, ns, es, rfl, hp, q⟩ := h
    rfl
  · obtain ⟨p, z, ns, es, rfl, hp, q⟩ := h
    refine ⟨_, PSs.nox (pss_cons (ps_set (i := 1) sc_Sight_whole_spans.nd rfl (Or.inl rfl) (pe_mt20 T.m_Sight_span_starts c_Sight_span_starts hr (by decide) (pv 0)))
        (pss_cons (ps_set (i := 2) sc_Sight_whole_spans.nd rfl (Or.inl rfl) (pe_op op_cat (pe_lc (own := [("start", 3)]) (g := gName 3) (tt := tYes) (by rfl) sc_Sight_whole_spans.nd (pi_list (pe_slice sl_list (pv 1) (po_some pe_int) po_none)) (blkOk_by (N := ["self", "starts", "ends", "start"]) (sc := defScope s_Sight_whole_spans) (by decide +kernel)) (fun _ _ _ _ _ => (pg_name (i := 3) sc_Sight_whole_spans.nd rfl (Or.inl rfl))) (fun _ _ _ _ _ => pts_nil) (fun _ _ _ _ _ => (pe_op op_sub (pv 3) pe_int))) (pe_slice sl_list (pv 1) (po_some (pe_un un_neg pe_int)) po_none)))
        (pss_one (ps_ret (NbB.pe_listZip rfl (by rfl) T.n_list (by decide +kernel) (by rfl) T.n_zip (pa_cons (pv 1) (pa_cons (pv 2) pa_nil))))))), ?_⟩
    obtain ⟨dx, nl, dh, dp, own, h1, hnl, D, hw⟩ := id hp
    have few := hw.en.few
    have lst := len_starts z es
    walk_at "rd"
    refine ⟨true, dx, _, h1, fsS_noM (by decide +kernel) (by decide +kernel) (by decide +kernel) (by decide +kernel) _ _ _ _, p, z, ns, es, rfl, hp, fun b H1 hb e1 hbl => ⟨_, _, rfl, SqL.of hbl, fun l hl => ?_⟩⟩
    rw [show (some (1 : Int)) = some (((1 : Nat) : Int)) from rfl, cut_from, ← List.map_drop]
    have e2 := Same.new (o := .lst (((starts z es).drop 1).map V.int)) (Same.refl H1) hl
    have hl2 : upd H1 l (.lst (((starts z es).drop 1).map V.int)) l = some (.lst (((starts z es).drop 1).map V.int)) := upd_same
    generalize upd H1 l (.lst (((starts z es).drop 1).map V.int)) = H2 at e2 hl2 ⊢
    refine ⟨l, rfl, ⟨_, SqL.of hl2⟩, fun L hL => comp_list (((starts z es).drop 1).map V.int) (fun i H' => Same H2 H' ∧ H' L = some (.lst (((((starts z es).drop 1).take i).map fun x => x - 1).map V.int))) ⟨Same.new (Same.refl _) hL, upd_same⟩ (fun i H' _ k => SqL.of (k.1 _ _ hl2)) ?_ ?_⟩
    · rintro i x H' hi ⟨e, f1⟩
      rw [List.getElem?_map] at hi
      obtain ⟨st, hst, rfl⟩ := Option.map_eq_some_iff.mp hi
      have hlt := (List.getElem?_eq_some_iff.mp hst).1
      rw [List.length_drop] at hlt
      walk_at "rd"
      refine ⟨_, f1, sz_lt (by rw [List.length_map, List.length_map, List.length_take]; omega), Nb.Same.mut e hL, ?_⟩
      rw [upd_same, List.take_add_one, hst, List.map_append, List.map_append]
      rfl
    · rintro H' ⟨e, f1⟩
      rw [List.length_map, List.take_length] at f1
      have e12 := e2.trans e
      refine ⟨_, _, rfl, SqL.of (e12 _ _ hbl), fun l3 hl3 => ?_⟩
      rw [cut_last, List.length_map, ← List.map_drop]
      have e3 := Same.new (o := .lst (((starts z es).drop ((starts z es).length - 1)).map V.int)) (Same.refl H') hl3
      refine ⟨L, l3, _, _, rfl, rfl, e3 _ _ f1, upd_same, sz_le (by rw [List.length_map, List.length_map, List.length_map, List.length_drop, List.length_drop]; omega), fun l4 hl4 => ?_⟩
      rw [← List.map_append]
      have e4 := Same.new (o := .lst ((((starts z es).drop 1).map (fun x => x - 1) ++ (starts z es).drop ((starts z es).length - 1)).map V.int)) e3 hl4
      refine ⟨b, l4, ⟨rfl, rfl⟩, _, SqL.of (e4 _ _ (e12 _ _ hbl)), _, SqL.of upd_same, sz_le (by rw [List.length_map]; omega), ?_⟩
      intro H5 pr ts hk hpr tl hno hnot hlst htup
      have e05 : Same H H5 := fun a o h => hk _ _ (e4 _ _ (e12 _ _ (e1 _ _ h)))
      refine q pr ts H5 ?_ e05 hlst ?_
      · exact (e1.trans (e12.trans e4)).free hpr
      · refine prs_of (by rw [tl, List.length_zip, List.length_map, List.length_map, len_spansP, List.length_append, List.length_map, List.length_drop, List.length_drop]; omega) fun j t p' hj hp' => ?_
        unfold spansP at hp'
        obtain ⟨g1, g2⟩ := List.getElem?_zip_eq_some.mp hp'
        exact htup j t (.int p'.1, .int p'.2) hj (by rw [List.getElem?_zip_eq_some, List.getElem?_map, List.getElem?_map, g1, g2]; exact ⟨rfl, rfl⟩)
theorem ok_Sight_earliest_slots {f : Addr} {fd : FuncData} (F : d_Sight_earliest_slots.Is K f fd) (T : Txt K mg)
    (c_Sight_span_starts : C8.CalAt P w K mg base 1 (d_Sight_span_starts.way K) (sp_Sight_span_starts K))
    (c_Sight_slot_from : C8.CalAt P w K mg base 5 (d_Sight_slot_from.way K) (sp_Sight_slot_from K)) :
    FnOk P w K mg base CX0 7 f fd ["self"] (sp_Sight_earliest_slots K) := by
  refine F.ok sc_Sight_earliest_slots (fun vs H Q E h => ?_) (fun cdv A outer s H vs Q E hr h => ?_)
  · obtain ⟨p, z, ns, es, rfl, hp, q⟩ := h
    rfl
  · obtain ⟨p, z, ns, es, rfl, hp, q⟩ := h
    refine ⟨_, PSs.nox (pss_cons (ps_set (i := 1) sc_Sight_earliest_slots.nd rfl (Or.inl rfl) (pe_lst pa_nil))
        (pss_cons (ps_set (i := 2) sc_Sight_earliest_slots.nd rfl (Or.inl rfl) pe_int)
        (pss_cons (ps_for PassesOwn.never rfl (pi_list (pe_mt20 T.m_Sight_span_starts c_Sight_span_starts hr (by decide) (pv 0))) (pg_name (i := 3) sc_Sight_earliest_slots.nd rfl (Or.inl rfl))
          (pss_cons (ps_set (i := 2) sc_Sight_earliest_slots.nd rfl (Or.inl rfl) (pe_mt2 T.m_Sight_slot_from c_Sight_slot_from hr (by decide) (pv 0) (pa_cons (pv 3) (pa_cons (pv 2) pa_nil))))
          (pss_cons (ps_expr (pe_bm PySem.F.plainAttrs_list PySem.F.slot_list_append PySem.F.type_list_append mt_append (pv 1) (pa_cons (pv 2) pa_nil)))
          (pss_one (ps_if (pt_cmpR op_gt (pv 2) (pe_fld (pv 0) rfl) (nomark _))
            (pss_one ps_break)
            pss_nil)))))
        (pss_one (ps_ret (pv 1)))))), ?_⟩
    obtain ⟨dx, nl, dh, dp, own, h1, hnl, D, hw⟩ := id hp
    have few := hw.en.few
    walk_at "rd"
    refine ⟨sz_le (by decide), fun a ha => ?_⟩
    have e1 := Same.new (o := .lst []) (Same.refl H) ha
    refine ⟨true, dx, _, e1 _ _ h1, fsS_noM (by decide +kernel) (by decide +kernel) (by decide +kernel) (by decide +kernel) _ _ _ _, p, z, ns, es, rfl, hp.same e1, fun b H1 hb e2 hbl => ?_⟩
    have nab : a ≠ b := ne_of_none upd_same hb
    have lst := len_starts z es
    refine ⟨b, rfl, ⟨_, SqL.of hbl⟩, loop_list ((starts z es).map V.int) (fun i σ' H' => (∃ f acc t3, σ' = [some (.ref p), some (.ref a), some (.int f), t3] ∧ H' a = some (.lst (acc.map V.int)) ∧ acc.length = i ∧ acc ++ walkE (sFrom z ns es) (es.length : Int) f ((starts z es).drop i) = earl z ns es) ∧ H' b = some (.lst ((starts z es).map V.int)) ∧ Same H H') ⟨⟨0, [], _, rfl, e2 _ _ upd_same, rfl, rfl⟩, hbl, e1.trans e2⟩ (fun i σ' H' _ k => SqL.of k.2.1) ?_ ?_⟩
    · rintro i x σ' H' hi ⟨⟨f, acc, t3, rfl, g1, g5, g2⟩, g3, e⟩
      rw [List.getElem?_map] at hi
      obtain ⟨st, hst, rfl⟩ := Option.map_eq_some_iff.mp hi
      have hlt := (List.getElem?_eq_some_iff.mp hst).1
      rw [drop_one hst, walkE_cons] at g2
      walk_at "rd"
      refine ⟨true, dx, _, e _ _ h1, fsS_noM (by decide +kernel) (by decide +kernel) (by decide +kernel) (by decide +kernel) _ _ _ _, p, z, ns, es, st, f, rfl, hp.same e, fun H2 e4 => ?_⟩
      have g1' := e4 _ _ g1
      have e5 := Nb.Same.mut (o := .lst (acc.map V.int ++ [.int (sFrom z ns es st f)])) (e.trans e4) ha
      refine ⟨.inl ⟨rfl, _, SqL.of g1'⟩, a, _, _, rfl, rfl, g1', sz_lt (by rw [List.length_map]; omega), ?_⟩
      refine ⟨_, dx, _, e5 _ _ h1, T.sf.cl, T.sf.nL, _, fsS_last nl _ dh dp, _, rfl, _, rfl, ite2 (fun h => ?_) (fun h => ?_)⟩
      · rw [if_pos h] at g2
        refine q a _ ha e5 ?_
        rw [upd_same, ← g2, List.map_append]
        rfl
      · rw [if_neg h] at g2
        refine ⟨⟨_, acc ++ [sFrom z ns es st f], _, ⟨rfl, rfl⟩, by rw [upd_same, List.map_append]; rfl, by rw [List.length_append, g5]; rfl, by rw [List.append_assoc]; exact g2⟩, upd_keep (e4 _ _ g3) nab.symm, e5⟩
    · rintro σ' H' ⟨⟨f, acc, t3, rfl, g1, g5, g2⟩, g3, e⟩
      rw [List.length_map, List.drop_length] at g2
      walk_at "rd"
      have g4 : acc = earl z ns es := by rw [← g2]; exact (List.append_nil _).symm
      rw [g4] at g1
      exact q a H' ha e g1
theorem ok_Sight_latest_slots {f : Addr} {fd : FuncData} (F : d_Sight_latest_slots.Is K f fd) (T : Txt K mg)
    (c_Sight_span_starts : C8.CalAt P w K mg base 1 (d_Sight_span_starts.way K) (sp_Sight_span_starts K))
    (c_Sight_slot_up_to : C8.CalAt P w K mg base 5 (d_Sight_slot_up_to.way K) (sp_Sight_slot_up_to K)) :
    FnOk P w K mg base CX0 7 f fd ["self"] (sp_Sight_latest_slots K) := by
  refine F.ok sc_Sight_latest_slots (fun vs H Q E h => ?_) (fun cdv A outer s H vs Q E hr h => ?_)
  · obtain ⟨p, z, ns, es, rfl, hp, q⟩ := h
    rfl
  · obtain ⟨p, z, ns, es, rfl, hp, q⟩ := h
    refine ⟨_, PSs.nox (pss_cons (ps_set (i := 1) sc_Sight_latest_slots.nd rfl (Or.inl rfl) (pe_lst pa_nil))
        (pss_cons (ps_set (i := 2) sc_Sight_latest_slots.nd rfl (Or.inl rfl) (pe_fld (pv 0) rfl))
        (pss_cons (ps_for PassesOwn.never rfl (pi_list (pe_revL (pe_mt20 T.m_Sight_span_starts c_Sight_span_starts hr (by decide) (pv 0)))) (pg_name (i := 3) sc_Sight_latest_slots.nd rfl (Or.inl rfl))
          (pss_cons (ps_set (i := 2) sc_Sight_latest_slots.nd rfl (Or.inl rfl) (pe_mt2 T.m_Sight_slot_up_to c_Sight_slot_up_to hr (by decide) (pv 0) (pa_cons (pv 3) (pa_cons (pv 2) pa_nil))))
          (pss_one (ps_expr (pe_bm PySem.F.plainAttrs_list PySem.F.slot_list_append PySem.F.type_list_append mt_append (pv 1) (pa_cons (pv 2) pa_nil))))))
        (pss_one (ps_ret (pe_revL (pv 1))))))), ?_⟩
    obtain ⟨dx, nl, dh, dp, own, h1, hnl, D, hw⟩ := id hp
    have few := hw.en.few
    walk_at "rd"
    refine ⟨sz_le (by decide), fun a ha => ?_⟩
    have e1 := Same.new (o := .lst []) (Same.refl H) ha
    refine ⟨_, dx, _, e1 _ _ h1, T.sf.cl, T.sf.nL, _, fsS_last nl _ dh dp, true, dx, _, e1 _ _ h1, fsS_noM (by decide +kernel) (by decide +kernel) (by decide +kernel) (by decide +kernel) _ _ _ _, p, z, ns, es, rfl, hp.same e1, fun b0 H1 hb0 e2 hbl => ⟨b0, rfl, _, SqL.of hbl, fun b hb => ?_⟩⟩
    have nab : a ≠ b := ne_of_none (e2 _ _ upd_same) hb
    have lst := len_starts z es
    have e3 := Same.new (o := .lst ((starts z es).map V.int).reverse) (e1.trans e2) hb
    have hbr : ((starts z es).map V.int).reverse = (starts z es).reverse.map V.int := List.map_reverse.symm
    rw [hbr]
    refine ⟨⟨_, SqL.of upd_same⟩, loop_list ((starts z es).reverse.map V.int) (fun i σ' H' => (∃ f acc t3, σ' = [some (.ref p), some (.ref a), some (.int f), t3] ∧ H' a = some (.lst (acc.map V.int)) ∧ acc.length = i ∧ acc ++ walkL (sUpTo z ns es) f ((starts z es).reverse.drop i) = walkL (sUpTo z ns es) (es.length : Int) (starts z es).reverse) ∧ H' b = some (.lst ((starts z es).reverse.map V.int)) ∧ Same H H') ⟨⟨_, [], _, rfl, upd_keep (e2 _ _ upd_same) nab, rfl, rfl⟩, upd_same, by rw [← hbr]; exact e3⟩ (fun i σ' H' _ k => SqL.of k.2.1) ?_ ?_⟩
    · rintro i x σ' H' hi ⟨⟨f, acc, t3, rfl, g1, g5, g2⟩, g3, e⟩
      rw [List.getElem?_map] at hi
      obtain ⟨st, hst, rfl⟩ := Option.map_eq_some_iff.mp hi
      have hlt := (List.getElem?_eq_some_iff.mp hst).1
      rw [List.length_reverse] at hlt
      rw [drop_one hst, walkL_cons] at g2
      walk_at "rd"
      refine ⟨true, dx, _, e _ _ h1, fsS_noM (by decide +kernel) (by decide +kernel) (by decide +kernel) (by decide +kernel) _ _ _ _, p, z, ns, es, st, f, rfl, hp.same e, fun H2 e4 => ?_⟩
      have g1' := e4 _ _ g1
      have e5 := Nb.Same.mut (o := .lst (acc.map V.int ++ [.int (sUpTo z ns es st f)])) (e.trans e4) ha
      exact ⟨.inl ⟨rfl, _, SqL.of g1'⟩, a, _, _, rfl, rfl, g1', sz_lt (by rw [List.length_map]; omega), ⟨_, acc ++ [sUpTo z ns es st f], _, ⟨rfl, rfl⟩, by rw [upd_same, List.map_append]; rfl, by rw [List.length_append, g5]; rfl, by rw [List.append_assoc]; exact g2⟩, upd_keep (e4 _ _ g3) nab.symm, e5⟩
    · rintro σ' H' ⟨⟨f, acc, t3, rfl, g1, g5, g2⟩, g3, e⟩
      rw [List.length_map, List.drop_length] at g2
      walk_at "rd"
      have g4 : acc = walkL (sUpTo z ns es) (es.length : Int) (starts z es).reverse := by rw [← g2]; exact (List.append_nil _).symm
      refine ⟨_, SqL.of g1, fun c hc => q c _ (e.free hc) (Same.new e hc) ?_⟩
      rw [upd_same, ← List.map_reverse, g4]
      rfl
theorem ok_sight_of {f : Addr} {fd : FuncData} (F : d_sight_of.Is K f fd) (T : Txt K mg)
    (c_mk_Sight : C8.Mak P w K mg base 1 "Sight" (He.ga K "Sight") (sp_Sight_init K) [])
    (c_Log_size : C8.CalAt P w K mg base 1 (d_Log_size.way K) (sp_Log_size K))
    (c_Log_servers : C8.CalAt P w K mg base 1 (d_Log_servers.way K) (sp_Log_servers K))
    (c_Log_entries : C8.CalAt P w K mg base 1 (d_Log_entries.way K) (sp_Log_entries K)) :
    FnOk P w K mg base CX0 3 f fd ["log"] (sp_sight_of K) := by
  refine F.ok sc_sight_of (fun vs H Q E h => ?_) (fun cdv A outer s H vs Q E hr h => ?_)
  · obtain ⟨p, b, z, ns, es, rfl, hp, q⟩ := h
    rfl
  · obtain ⟨p, b, z, ns, es, rfl, hp, q⟩ := h
    refine ⟨_, PSs.nox (pss_one (ps_ret (C8.pe_mk c_mk_Sight hr (by decide) (by rfl) (pa_cons (pe_prp2 T.p_size c_Log_size hr (by decide) (pv 0)) (pa_cons (pe_prp2 T.p_servers c_Log_servers hr (by decide) (pv 0)) (pa_cons (pe_prp2 T.p_entries c_Log_entries hr (by decide) (pv 0)) pa_nil)))))), ?_⟩
    walk_at "rd"
    obtain ⟨dx, ls, le, hp1, hls, hle, hw⟩ := id hp
    refine ⟨_, _, _, hp1, p, b, z, ns, es, rfl, hp, _, _, _, hp1, p, b, z, ns, es, rfl, hp, fun c H1 hc e1 hc1 => ⟨_, _, _, e1 _ _ hp1, p, b, z, ns, es, rfl, hp.same e1, fun s' H2 hs' e2 hs2 => fun x d hx hd nd => ?_⟩⟩
    have e3 : Same H2 (upd (upd H2 d (.own x)) x (.ins (CS K) d [])) := Same.new (Same.new (Same.refl _) hd) (by rw [upd_ne nd.symm]; exact hx)
    refine ⟨x, d, z, c, s', ns, es, rfl, upd_same, hw, (hc1.same e2).same e3, hs2.same e3, fun H' k hS => ⟨rfl, q x H' (fun a o h => ?_) hS⟩⟩
    have h2 := e2 _ _ (e1 _ _ h)
    exact k a o (ne_of_none h2 hx) (e3 _ _ h2)
theorem ok_find_obstacle {f : Addr} {fd : FuncData} (F : d_find_obstacle.Is K f fd) (T : Txt K mg)
    (c_find_pair : C8.Cal P w K mg base 2 "find_pair" (sp_find_pair K) [])
    (c_pushed_steps : C8.Cal P w K mg base 9 "pushed_steps" (sp_pushed_steps K) [])
    (c_mk_Sight : C8.Mak P w K mg base 1 "Sight" (He.ga K "Sight") (sp_Sight_init K) []) :
    FnOk P w K mg base CX0 10 f fd ["size", "servers", "entries"] (sp_find_obstacle K) := by
  refine F.ok sc_find_obstacle (fun vs H Q E h => ?_) (fun cdv A outer s H vs Q E hr h => ?_)
  · obtain ⟨z, c, s', ns, es, rfl, hw, hc, hs, q⟩ := h
    rfl
  · obtain ⟨z, c, s', ns, es, rfl, hw, hc, hs, q⟩ := h
    refine ⟨_, PSs.nox (pss_cons (ps_set (i := 3) sc_find_obstacle.nd rfl (Or.inl rfl) (C8.pe_c c_find_pair hr (by decide) (by rfl) (pa_cons (pv 0) (pa_cons (pv 2) pa_nil))))
        (pss_cons (ps_if (pt_cmpR op_notN (pv 3) pe_non (nomark _))
          (pss_one (ps_ret (pv 3)))
          pss_nil)
        (pss_cons (ps_set (i := 4) sc_find_obstacle.nd rfl (Or.inl rfl) (C8.pe_c c_pushed_steps hr (by decide) (by rfl) (pa_cons (C8.pe_mk c_mk_Sight hr (by decide) (by rfl) (pa_cons (pv 0) (pa_cons (pv 1) (pa_cons (pv 2) pa_nil)))) pa_nil)))
        (pss_cons (ps_if (PW.pt (pw_and (pt_truth (pv 4) (by intro _; rfl)) (pw_and1 (pt_cmpR op_gt (pe_ix ix_tup (pe_ix ix_list (pv 4) (pe_un un_neg pe_int) (fun _ _ => rfl)) pe_int (fun _ _ => rfl)) (pe_callB call_len_seq (by rfl) T.n_len (by decide +kernel) (pa_cons (pv 2) pa_nil)) (nomark _)))))
          (pss_one (ps_ret (pe_tup (pa_cons pe_str (pa_cons (pv 4) pa_nil)))))
          pss_nil)
        (pss_one (ps_ret pe_non)))))), ?_⟩
    have few := hw.en.few
    have lst := len_starts z es
    walk_at "rd"
    refine ⟨z, s', es, rfl, hw.sz, hs, by omega, fun v H1 e1 d1 w1 => ?_⟩
    by_cases hb : barD z es = .none
    · rw [obs_none hb] at q
      rw [hb] at d1
      cases d1
      refine ifN (by simp) fun x d hx hd nd => ?_
      have e3 : Same H1 (upd (upd H1 d (.own x)) x (.ins (CS K) d [])) := Same.new (Same.new (Same.refl _) hd) (by rw [upd_ne nd.symm]; exact hx)
      refine ⟨x, d, z, c, s', ns, es, rfl, upd_same, hw, (hc.same e1).same e3, (hs.same e1).same e3, fun H' k hS => ⟨rfl, x, z, ns, es, rfl, hS, fun a vs H3 ha e4 hv hvs hown => ?_⟩⟩
      have e05 : Same H H' := e1.trans fun b o h => k b o (ne_of_none h hx) (e3 _ _ h)
      have e5 : Same H H3 := ((e1.trans fun b o h => k b o (ne_of_none h hx) (e3 _ _ h))).trans e4
      have hl := dps_len hvs
      rw [List.length_map] at hl
      refine ⟨!vs.isEmpty, .inl ⟨vs, SqL.of hv, rfl⟩, ?_⟩
      unfold pushedD at q
      cases hx2 : (push z ns es).getLast? with
      | none =>
        have hn := List.getLast?_eq_none_iff.mp hx2
        rw [hn] at hl q
        have hv0 : vs = [] := List.length_eq_zero_iff.mp hl
        rw [hv0]
        have h0 : ¬ (es.length : Int) < lastS [] := by show ¬ (es.length : Int) < 0; omega
        refine ifN (by decide) (q _ _ e5 ?_ (.inl ⟨rfl, ?_⟩))
        · rw [if_neg h0]
          exact .non
        · rw [if_neg h0]
      | some pr =>
        obtain ⟨init, hin⟩ := List.getLast?_eq_some_iff.mp hx2
        have hls : lastS (push z ns es) = pr.2 := by
          unfold lastS
          rw [hx2]
          rfl
        rw [hls] at q
        have hvs2 := hvs
        rw [hin, List.map_append] at hvs2
        obtain ⟨us, v1, rfl, hd1⟩ := dps_last hvs2
        obtain ⟨t, rfl, ht⟩ := dp_pr hd1
        obtain ⟨tsx, hsx, hex⟩ := hs.same e5
        have hln := hex.len
        refine ifP (by simp) ⟨a, rfl, _, SqL.of hv, _, atI_last _ _, t, rfl, _, ht, _, rfl, _, .inl (SqL.of hsx), _, rfl, ?_⟩
        rw [List.length_map, hln]
        by_cases h : (es.length : Int) < pr.2
        · rw [if_pos h] at q
          refine ifP h ⟨sz_le (by decide), fun p2 hp2 => q _ _ (Same.new e5 hp2) ?_ ?_⟩
          rotate_left
          · have e6 := Same.new (o := .tup [.str "pushed", .ref a]) (Same.refl H3) hp2
            exact .inr ⟨p2, rfl, e5.free hp2, .inr ⟨a, _, _, rfl, e05.free ha, upd_same, e6 _ _ hv, hown.same e6⟩⟩
          have e6 := Same.new (o := .tup [.str "pushed", .ref a]) (Same.refl H3) hp2
          exact .tup (SqT.of upd_same) (.cons (.str _) (.cons (.lst (SqL.of (e6 _ _ hv)) (dpAll_same e6 _ _ hvs)) .nil))
        · rw [if_neg h] at q
          exact ifN h (q _ _ e5 .non (.inl ⟨rfl, rfl⟩))
    · rw [obs_some hb] at q
      have hv : ¬ v = .non := fun h => by
        subst h
        exact hb (by generalize barD z es = d at d1; cases d1; rfl)
      exact ifP hv (q _ _ e1 d1 w1)
theorem ok_find_pair {f : Addr} {fd : FuncData} (F : d_find_pair.Is K f fd) (T : Txt K mg)
    (c_find_twice : C8.Cal P w K mg base 1 "find_twice" (sp_find_twice K) [])
    (c_find_shared : C8.Cal P w K mg base 1 "find_shared" (sp_find_shared K) [])
    (c_find_back : C8.Cal P w K mg base 1 "find_back" (sp_find_back K) []) :
    FnOk P w K mg base CX0 2 f fd ["size", "entries"] (sp_find_pair K) := by
  refine F.ok sc_find_pair (fun vs H Q E h => ?_) (fun cdv A outer s H vs Q E hr h => ?_)
  · obtain ⟨z, s', es, rfl, hz, hs, few, q⟩ := h
    rfl
  · obtain ⟨z, s', es, rfl, hz, hs, few, q⟩ := h
    refine ⟨_, PSs.nox (pss_cons (ps_set (i := 2) sc_find_pair.nd rfl (Or.inl rfl) (C8.pe_c c_find_twice hr (by decide) (by rfl) (pa_cons (pv 1) pa_nil)))
        (pss_cons (ps_if (pt_cmpR op_isN (pv 2) pe_non (nomark _))
          (pss_one (ps_set (i := 2) sc_find_pair.nd rfl (Or.inl rfl) (C8.pe_c c_find_shared hr (by decide) (by rfl) (pa_cons (pv 0) (pa_cons (pv 1) pa_nil)))))
          pss_nil)
        (pss_cons (ps_if (pt_cmpR op_isN (pv 2) pe_non (nomark _))
          (pss_one (ps_set (i := 2) sc_find_pair.nd rfl (Or.inl rfl) (C8.pe_c c_find_back hr (by decide) (by rfl) (pa_cons (pv 1) pa_nil))))
          pss_nil)
        (pss_one (ps_ret (pv 2)))))), ?_⟩
    walk_at "rd"
    refine ⟨s', es, rfl, hs, few, fun v H1 e1 d1 w1 => ?_⟩
    have hs1 := hs.same e1
    unfold barD at q
    cases h1 : twO [] es with
    | some p1 =>
      rw [h1] at q d1 w1
      have hv : ¬ v = .non := fun h => by rw [dp_none d1] at h; cases h
      refine ifN hv (ifN hv (q _ _ e1 d1 w1))
    | none =>
      rw [h1] at q d1 w1
      refine ifP ((dp_none d1).mpr rfl) ⟨z, s', es, rfl, hz, hs1, few, fun v2 H2 e2 d2 w2 => ?_⟩
      cases h2 : shO z [] es with
      | some p2 =>
        rw [h2] at q d2 w2
        have hv : ¬ v2 = .non := fun h => by rw [dp_none d2] at h; cases h
        exact ifN hv (q _ _ (e1.trans e2) d2 (w2.back e1))
      | none =>
        rw [h2] at q d2 w2
        exact ifP ((dp_none d2).mpr rfl) ⟨s', es, rfl, hs1.same e2, few, fun v3 H3 e3 d3 w3 => q _ _ ((e1.trans e2).trans e3) d3 (w3.back (e1.trans e2))⟩
theorem ok_find_twice {f : Addr} {fd : FuncData} (F : d_find_twice.Is K f fd) (T : Txt K mg) :
    FnOk P w K mg base CX0 1 f fd ["entries"] (sp_find_twice K) := by
  refine F.ok sc_find_twice (fun vs H Q E h => ?_) (fun cdv A outer s H vs Q E hr h => ?_)
  · obtain ⟨s', es, rfl, ⟨ts, hs, hes⟩, few, q⟩ := h
    rfl
  · obtain ⟨s', es, rfl, ⟨ts, hs, hes⟩, few, q⟩ := h
    refine ⟨_, PSs.nox (pss_cons (ps_set (i := 1) sc_find_twice.nd rfl (Or.inl rfl) pe_dnewK)
        (pss_cons (ps_for PassesOwn.never rfl (pi_enum (by rfl) T.n_enumerate (pa_cons (pv 0) pa_nil)) (pg_tup (by rfl) (pgs_cons (pg_name (i := 2) sc_find_twice.nd rfl (Or.inl rfl)) (pgs_cons (pg_tup (by rfl) (pgs_cons (pg_name (i := 3) sc_find_twice.nd rfl (Or.inl rfl)) (pgs_cons (pg_name (i := 4) sc_find_twice.nd rfl (Or.inl rfl)) pgs_nil))) pgs_nil)))
          (pss_cons (ps_if (pt_cmp (pc_din (room1 hr) (pv 4) (pv 1)))
            (pss_one (ps_ret (pe_tup (pa_cons pe_str (pa_cons (pe_dget (room1 hr) (pv 1) (pv 4) (fun _ _ => rfl)) (pa_cons (pv 2) pa_nil))))))
            pss_nil)
          (pss_one (ps_dput (room1 hr) (pv 1) (pv 4) (pv 2) rfl))))
        (pss_one (ps_ret pe_non)))), ?_⟩
    walk_at "rd"
    intro p hp
    have e0 := Same.new (o := .dK []) (Same.refl H) hp
    refine ⟨_, SqL.of (e0 _ _ hs), loop_enum (ts.map V.ref) (fun i σ' H' => (∃ t2 t3 t4, σ' = [some (.ref s'), some (.ref p), t2, t3, t4]) ∧ (∃ kvs : List (Key × V), H' p = some (.dK kvs) ∧ kvs.length ≤ i ∧ ∀ k : Int, valV kvs (.inl k) = ((es.take i).findIdx? (fun x => decide (x.2 = k))).map (fun j : Nat => V.int (j : Int))) ∧ twO (es.take i) (es.drop i) = twO [] es ∧ Same H H') ⟨⟨_, _, _, rfl⟩, ⟨[], upd_same, Nat.le_refl _, fun k => rfl⟩, rfl, e0⟩ (fun i σ' H' _ k => SqL.of (k.2.2.2 _ _ hs)) ?_ ?_⟩
    · rintro i x σ' H' t hi ⟨⟨t2, t3, t4, rfl⟩, ⟨kvs, g1, g2, g3⟩, g4, e⟩ ht
      rw [List.getElem?_map] at hi
      obtain ⟨u, hu, rfl⟩ := Option.map_eq_some_iff.mp hi
      obtain ⟨en, he, hue⟩ := hes.get hu
      have hlt := (List.getElem?_eq_some_iff.mp he).1
      have tl : (es.take i).length = i := by
        rw [List.length_take]
        omega
      have tk : es.take (i + 1) = es.take i ++ [en] := by
        rw [List.take_add_one, he]
        rfl
      have ea := Same.new (o := .tup [.int (i : Int), .ref u]) e ht
      have g1a := upd_keep (o := .tup [.int (i : Int), .ref u]) g1 (ne_of_none g1 ht)
      have hu2 := ea _ _ hue
      rw [drop_one he, twO_cons] at g4
      refine ⟨t, _, rfl, SqT.of upd_same, rfl, _, _, rfl, _, _, rfl, u, _, rfl, SqT.of hu2, rfl, _, _, rfl, _, _, rfl, rfl, rfl, ?_⟩
      generalize upd H' t (.tup [.int (i : Int), .ref u]) = Ht at ea g1a hu2 ⊢
      walk_at "rd"
      refine ⟨_, .k (k := .inl en.2) g1a, ?_⟩
      rw [g3 en.2]
      cases hf : (es.take i).findIdx? (fun x => decide (x.2 = en.2)) with
      | some j =>
        rw [hf] at g4
        have hget : DGet Ht p (.int en.2) (some (V.int (j : Int))) := by
          have h := DGet.k (k := .inl en.2) g1a
          rw [g3 en.2, hf] at h
          exact h
        refine ifP rfl ⟨_, hget, sz_le (by decide), fun p2 hp2 => q _ _ (Same.new ea hp2) ?_ ?_⟩
        · rw [← g4, tl]
          exact dp_duo upd_same
        · rw [← g4, tl]
          exact own_duo hp2 ea
      | none =>
        rw [hf] at g4
        refine ifN (by decide) ⟨_, .k (k := .inl en.2) g1a (sz_lt (by omega)), ⟨_, rfl⟩, ⟨_, upd_same, Nat.le_trans (putK_le _ _ _) (by omega), fun k => ?_⟩, by rw [tk]; exact g4, Nb.Same.mut ea hp⟩
        rw [valV_put, tk, findIdx_snoc, g3 k]
        by_cases h : k = en.2
        · subst h
          rw [if_pos rfl, hf]
          simp [tl]
        · rw [if_neg (fun eq => h (by injection eq))]
          cases (es.take i).findIdx? (fun x => decide (x.2 = k)) with
          | some j => rfl
          | none => simp [Ne.symm h]
    · rintro σ' H' ⟨⟨t2, t3, t4, rfl⟩, -, g4, e⟩
      rw [List.length_map, Ents.len hes, List.take_length, List.drop_length] at g4
      walk_at "rd"
      refine q _ _ e ?_ (.inl ⟨rfl, ?_⟩)
      · rw [← g4]
        exact .non
      · rw [← g4]
        first | done | rfl
theorem ok_find_shared {f : Addr} {fd : FuncData} (F : d_find_shared.Is K f fd) (T : Txt K mg) :
    FnOk P w K mg base CX0 1 f fd ["size", "entries"] (sp_find_shared K) := by
  refine F.ok sc_find_shared (fun vs H Q E h => ?_) (fun cdv A outer s H vs Q E hr h => ?_)
  · obtain ⟨z, s', es, rfl, hz, ⟨ts, hs, hes⟩, few, q⟩ := h
    rfl
  · obtain ⟨z, s', es, rfl, hz, ⟨ts, hs, hes⟩, few, q⟩ := h
    refine ⟨_, PSs.nox (pss_cons (ps_set (i := 2) sc_find_shared.nd rfl (Or.inl rfl) pe_dnewK)
        (pss_cons (ps_for PassesOwn.never rfl (pi_enum (by rfl) T.n_enumerate (pa_cons (pv 1) pa_nil)) (pg_tup (by rfl) (pgs_cons (pg_name (i := 3) sc_find_shared.nd rfl (Or.inl rfl)) (pgs_cons (pg_tup (by rfl) (pgs_cons (pg_name (i := 4) sc_find_shared.nd rfl (Or.inl rfl)) (pgs_cons (pg_name (i := 5) sc_find_shared.nd rfl (Or.inl rfl)) pgs_nil))) pgs_nil)))
          (pss_cons (ps_set (i := 6) sc_find_shared.nd rfl (Or.inl rfl) (pe_dsetd (pv 2) (pe_op op_fdivW (pv 5) (pv 0)) (pv 3) ⟨by rfl, by rfl, by rfl, by rfl⟩))
          (pss_one (ps_if (pt_cmpR op_ne (pe_ix ix_tup (pe_ix ix_list (pv 1) (pv 6) (fun _ _ => rfl)) pe_int (fun _ _ => rfl)) (pv 4) (nomark _))
            (pss_one (ps_ret (pe_tup (pa_cons pe_str (pa_cons (pv 6) (pa_cons (pv 3) pa_nil))))))
            pss_nil))))
        (pss_one (ps_ret pe_non)))), ?_⟩
    walk_at "rd"
    intro p hp
    have e0 := Same.new (o := .dK []) (Same.refl H) hp
    have cd : ∀ i, CDivW i z := fun i => div_ok (by have := hz.1; omega) (Int.le_trans hz.2 (by decide +kernel))
    refine ⟨_, SqL.of (e0 _ _ hs), loop_enum (ts.map V.ref) (fun i σ' H' => (∃ t3 t4 t5 t6, σ' = [some (.int z), some (.ref s'), some (.ref p), t3, t4, t5, t6]) ∧ (∃ kvs : List (Key × V), H' p = some (.dK kvs) ∧ kvs.length ≤ i ∧ ∀ k : Int, valV kvs (.inl k) = ((es.take i).findIdx? (fun x => decide (x.2 / z = k))).map (fun j : Nat => V.int (j : Int))) ∧ shO z (es.take i) (es.drop i) = shO z [] es ∧ Same H H') ⟨⟨_, _, _, _, rfl⟩, ⟨[], upd_same, Nat.le_refl _, fun k => rfl⟩, rfl, e0⟩ (fun i σ' H' _ k => SqL.of (k.2.2.2 _ _ hs)) ?_ ?_⟩
    · rintro i x σ' H' t hi ⟨⟨t3, t4, t5, t6, rfl⟩, ⟨kvs, g1, g2, g3⟩, g4, e⟩ ht
      rw [List.getElem?_map] at hi
      obtain ⟨u, hu, rfl⟩ := Option.map_eq_some_iff.mp hi
      obtain ⟨en, he, hue⟩ := hes.get hu
      have hlt := (List.getElem?_eq_some_iff.mp he).1
      have tl : (es.take i).length = i := by
        rw [List.length_take]
        omega
      have tk : es.take (i + 1) = es.take i ++ [en] := by
        rw [List.take_add_one, he]
        rfl
      have ea := Same.new (o := .tup [.int (i : Int), .ref u]) e ht
      have g1a := upd_keep (o := .tup [.int (i : Int), .ref u]) g1 (ne_of_none g1 ht)
      have hu2 := ea _ _ hue
      rw [drop_one he, shO_cons z] at g4
      refine ⟨t, _, rfl, SqT.of upd_same, rfl, _, _, rfl, _, _, rfl, u, _, rfl, SqT.of hu2, rfl, _, _, rfl, _, _, rfl, rfl, rfl, ?_⟩
      generalize upd H' t (.tup [.int (i : Int), .ref u]) = Ht at ea g1a hu2 ⊢
      walk_at "rd"
      have hs2 := ea _ _ hs
      refine ⟨.inl ⟨kvs, .inl g1a⟩, cd _, kvs, g1a, .inl (en.2 / z), rfl, sz_lt (by omega), fun v hv => ?_, fun hv => ?_⟩
      · rw [g3] at hv
        obtain ⟨j, hj, rfl⟩ := Option.map_eq_some_iff.mp hv
        rw [hj] at g4
        have jl := findIdx_lt hj
        rw [tl] at jl
        obtain ⟨eo, ho⟩ : ∃ eo, es[j]? = some eo := ⟨es[j]'(by omega), List.getElem?_eq_getElem (by omega)⟩
        obtain ⟨to, h2, h3⟩ := hes.get' ho
        have hgd : (es.take i).getD j en = eo := by
          rw [List.getD_eq_getElem?_getD, List.getElem?_take, if_pos jl, ho]
          rfl
        rw [tl] at g4
        simp only [hgd] at g4
        refine ⟨_, _, rfl, SqL.of hs2, .ref to, atI_nat (by rw [List.getElem?_map, h2]; rfl), to, rfl, _, SqT.of (ea _ _ h3), .str eo.1, rfl, rfl, _, rfl, ?_⟩
        rw [dS]
        by_cases h : eo.1 = en.1
        · rw [if_pos h] at g4
          refine ifN (by simp [h]) ⟨⟨_, rfl⟩, ⟨kvs, g1a, by omega, fun k => ?_⟩, by rw [tk]; exact g4, ea⟩
          rw [g3, tk, findIdx_snoc]
          cases hk : (es.take i).findIdx? (fun x => decide (x.2 / z = k)) with
          | some j2 => rfl
          | none =>
            have hne : ¬ en.2 / z = k := fun eq => by
              rw [← eq, hj] at hk
              cases hk
            simp [hne]
        · rw [if_neg h] at g4
          refine ifP (by simp [h]) ⟨sz_le (by decide), fun p2 hp2 => q _ _ (Same.new ea hp2) ?_ ?_⟩
          · rw [← g4]
            exact dp_duo upd_same
          · rw [← g4]
            exact own_duo hp2 ea
      · rw [g3] at hv
        have hj := Option.map_eq_none_iff.mp hv
        rw [hj] at g4
        have nps : s' ≠ p := ne_of_none hs hp
        have npu : u ≠ p := ne_of_none hue hp
        refine ⟨_, SqL.of (upd_keep hs2 nps), .ref u, atI_nat (by rw [List.getElem?_map, hu]; rfl), u, rfl, _, SqT.of (upd_keep hu2 npu), .str en.1, rfl, rfl, _, rfl, ifN (by simp) ⟨⟨_, rfl⟩, ⟨_, upd_same, Nat.le_trans (putK_le _ _ _) (by omega), fun k => ?_⟩, by rw [tk]; exact g4, Nb.Same.mut ea hp⟩⟩
        rw [valV_put, tk, findIdx_snoc, g3 k]
        by_cases h : k = en.2 / z
        · subst h
          rw [if_pos rfl, hj]
          simp [tl]
        · rw [if_neg (fun eq => h (by injection eq))]
          cases (es.take i).findIdx? (fun x => decide (x.2 / z = k)) with
          | some j => rfl
          | none => simp [Ne.symm h]
    · rintro σ' H' ⟨⟨t3, t4, t5, t6, rfl⟩, -, g4, e⟩
      rw [List.length_map, Ents.len hes, List.take_length, List.drop_length] at g4
      walk_at "rd"
      refine q _ _ e ?_ (.inl ⟨rfl, ?_⟩)
      · rw [← g4]
        exact .non
      · rw [← g4]
        first | done | rfl
theorem ok_find_back {f : Addr} {fd : FuncData} (F : d_find_back.Is K f fd) (T : Txt K mg) :
    FnOk P w K mg base CX0 1 f fd ["entries"] (sp_find_back K) := by
  refine F.ok sc_find_back (fun vs H Q E h => ?_) (fun cdv A outer s H vs Q E hr h => ?_)
  · obtain ⟨s', es, rfl, ⟨ts, hs, hes⟩, few, q⟩ := h
    rfl
  · obtain ⟨s', es, rfl, ⟨ts, hs, hes⟩, few, q⟩ := h
    refine ⟨_, PSs.nox (pss_cons (ps_set (i := 1) sc_find_back.nd rfl (Or.inl rfl) pe_dnewK)
        (pss_cons (ps_for PassesOwn.never rfl (pi_enum (by rfl) T.n_enumerate (pa_cons (pv 0) pa_nil)) (pg_tup (by rfl) (pgs_cons (pg_name (i := 2) sc_find_back.nd rfl (Or.inl rfl)) (pgs_cons (pg_tup (by rfl) (pgs_cons (pg_name (i := 3) sc_find_back.nd rfl (Or.inl rfl)) (pgs_cons (pg_name (i := 4) sc_find_back.nd rfl (Or.inl rfl)) pgs_nil))) pgs_nil)))
          (pss_cons (ps_set (i := 5) sc_find_back.nd rfl (Or.inl rfl) (pe_dget2 (room1 hr) (pv 1) (pv 3) (pv 2) ⟨by rfl, by rfl, by rfl, by rfl⟩))
          (pss_cons (ps_if (pt_cmpR op_gt (pe_ix ix_tup (pe_ix ix_list (pv 0) (pv 5) (fun _ _ => rfl)) pe_int (fun _ _ => rfl)) (pv 4) (nomark _))
            (pss_one (ps_ret (pe_tup (pa_cons pe_str (pa_cons (pv 5) (pa_cons (pv 2) pa_nil))))))
            pss_nil)
          (pss_one (ps_dput (room1 hr) (pv 1) (pv 3) (pv 2) rfl)))))
        (pss_one (ps_ret pe_non)))), ?_⟩
    walk_at "rd"
    intro p hp
    have e0 := Same.new (o := .dK []) (Same.refl H) hp
    refine ⟨_, SqL.of (e0 _ _ hs), loop_enum (ts.map V.ref) (fun i σ' H' => (∃ t2 t3 t4 t5, σ' = [some (.ref s'), some (.ref p), t2, t3, t4, t5]) ∧ (∃ kvs : List (Key × V), H' p = some (.dK kvs) ∧ kvs.length ≤ i ∧ ∀ n : Str, valV kvs (.inr n) = (lastI n (es.take i) 0).map (fun j : Nat => V.int (j : Int))) ∧ baO (es.take i) (es.drop i) = baO [] es ∧ Same H H') ⟨⟨_, _, _, _, rfl⟩, ⟨[], upd_same, Nat.le_refl _, fun k => rfl⟩, rfl, e0⟩ (fun i σ' H' _ k => SqL.of (k.2.2.2 _ _ hs)) ?_ ?_⟩
    · rintro i x σ' H' t hi ⟨⟨t2, t3, t4, t5, rfl⟩, ⟨kvs, g1, g2, g3⟩, g4, e⟩ ht
      rw [List.getElem?_map] at hi
      obtain ⟨u, hu, rfl⟩ := Option.map_eq_some_iff.mp hi
      obtain ⟨en, he, hue⟩ := hes.get hu
      have hlt := (List.getElem?_eq_some_iff.mp he).1
      have tl : (es.take i).length = i := by
        rw [List.length_take]
        omega
      have tk : es.take (i + 1) = es.take i ++ [en] := by
        rw [List.take_add_one, he]
        rfl
      have ea := Same.new (o := .tup [.int (i : Int), .ref u]) e ht
      have g1a := upd_keep (o := .tup [.int (i : Int), .ref u]) g1 (ne_of_none g1 ht)
      have hu2 := ea _ _ hue
      rw [drop_one he, baO_cons] at g4
      refine ⟨t, _, rfl, SqT.of upd_same, rfl, _, _, rfl, _, _, rfl, u, _, rfl, SqT.of hu2, rfl, _, _, rfl, _, _, rfl, rfl, rfl, ?_⟩
      generalize upd H' t (.tup [.int (i : Int), .ref u]) = Ht at ea g1a hu2 ⊢
      walk_at "rd"
      have hs2 := ea _ _ hs
      refine ⟨.inl ⟨kvs, .inl g1a⟩, _, .k (k := .inr en.1) g1a, ?_⟩
      rw [g3]
      have nps : s' ≠ p := ne_of_none hs hp
      have npu : u ≠ p := ne_of_none hue hp
      have fin : ∀ n : Str, valV (putK kvs (.inr en.1) (V.int (i : Int))) (.inr n) = (lastI n (es.take (i + 1)) 0).map (fun j : Nat => V.int (j : Int)) := fun n => by
        rw [valV_put, tk, lastI_app, g3 n]
        by_cases h : en.1 = n
        · subst h
          rw [if_pos rfl, if_pos rfl, tl]
          simp
        · rw [if_neg (fun eq => h (by injection eq with eq; exact eq.symm)), if_neg h]
      cases hj : lastI en.1 (es.take i) 0 with
      | some j =>
        rw [hj] at g4
        have jl := (lastI_lt _ _ _ _ hj).2
        rw [tl, Nat.zero_add] at jl
        obtain ⟨eo, ho⟩ : ∃ eo, es[j]? = some eo := ⟨es[j]'(by omega), List.getElem?_eq_getElem (by omega)⟩
        obtain ⟨to, h2, h3⟩ := hes.get' ho
        have hgd : (es.take i).getD j en = eo := by
          rw [List.getD_eq_getElem?_getD, List.getElem?_take, if_pos jl, ho]
          rfl
        rw [tl] at g4
        simp only [hgd] at g4
        refine ⟨_, _, rfl, SqL.of hs2, .ref to, atI_nat (by rw [List.getElem?_map, h2]; rfl), to, rfl, _, SqT.of (ea _ _ h3), .int eo.2, rfl, _, rfl, ite2 (fun h => ?_) (fun h => ?_)⟩
        · rw [if_pos h] at g4
          refine ⟨sz_le (by decide), fun p2 hp2 => q _ _ (Same.new ea hp2) ?_ ?_⟩
          · rw [← g4]
            exact dp_duo upd_same
          · rw [← g4]
            exact own_duo hp2 ea
        · rw [if_neg h] at g4
          exact ⟨_, .k (k := .inr en.1) g1a (sz_lt (by omega)), ⟨_, rfl⟩, ⟨_, upd_same, Nat.le_trans (putK_le _ _ _) (by omega), fin⟩, by rw [tk]; exact g4, Nb.Same.mut ea hp⟩
      | none =>
        rw [hj] at g4
        refine ⟨_, _, rfl, SqL.of hs2, .ref u, atI_nat (by rw [List.getElem?_map, hu]; rfl), u, rfl, _, SqT.of hu2, .int en.2, rfl, _, rfl, ifN (by omega) ⟨_, .k (k := .inr en.1) g1a (sz_lt (by omega)), ⟨_, rfl⟩, ⟨_, upd_same, Nat.le_trans (putK_le _ _ _) (by omega), fin⟩, by rw [tk]; exact g4, Nb.Same.mut ea hp⟩⟩
    · rintro σ' H' ⟨⟨t2, t3, t4, t5, rfl⟩, -, g4, e⟩
      rw [List.length_map, Ents.len hes, List.take_length, List.drop_length] at g4
      walk_at "rd"
      refine q _ _ e ?_ (.inl ⟨rfl, ?_⟩)
      · rw [← g4]
        exact .non
      · rw [← g4]
        first | done | rfl
theorem ok_pushed_steps {f : Addr} {fd : FuncData} (F : d_pushed_steps.Is K f fd) (T : Txt K mg)
    (c_Sight_span_starts : C8.CalAt P w K mg base 1 (d_Sight_span_starts.way K) (sp_Sight_span_starts K))
    (c_Sight_earliest_slots : C8.CalAt P w K mg base 7 (d_Sight_earliest_slots.way K) (sp_Sight_earliest_slots K)) :
    FnOk P w K mg base CX0 9 f fd ["sight"] (sp_pushed_steps K) := by
  refine F.ok sc_pushed_steps (fun vs H Q E h => ?_) (fun cdv A outer s H vs Q E hr h => ?_)
  · obtain ⟨p, z, ns, es, rfl, hp, q⟩ := h
    rfl
  · obtain ⟨p, z, ns, es, rfl, hp, q⟩ := h
    refine ⟨_, PSs.nox (pss_cons (ps_set (i := 1) sc_pushed_steps.nd rfl (Or.inl rfl) (pe_lst pa_nil))
        (pss_cons (ps_set (i := 2) sc_pushed_steps.nd rfl (Or.inl rfl) pe_int)
        (pss_cons (ps_for PassesOwn.never rfl (pi_zip (by rfl) T.n_zip (pa_cons (pe_mt20 T.m_Sight_span_starts c_Sight_span_starts hr (by decide) (pv 0)) (pa_cons (pe_mt20 T.m_Sight_earliest_slots c_Sight_earliest_slots hr (by decide) (pv 0)) pa_nil))) (pg_tup (by rfl) (pgs_cons (pg_name (i := 3) sc_pushed_steps.nd rfl (Or.inl rfl)) (pgs_cons (pg_name (i := 4) sc_pushed_steps.nd rfl (Or.inl rfl)) pgs_nil)))
          (pss_cons (ps_if (pt_cmpR op_gt (pv 4) (pv 2) (nomark _))
            (pss_one (ps_expr (pe_bm PySem.F.plainAttrs_list PySem.F.slot_list_append PySem.F.type_list_append mt_append (pv 1) (pa_cons (pe_tup (pa_cons (pv 3) (pa_cons (pv 4) pa_nil))) pa_nil))))
            pss_nil)
          (pss_one (ps_set (i := 2) sc_pushed_steps.nd rfl (Or.inl rfl) (pv 4)))))
        (pss_one (ps_ret (pv 1)))))), ?_⟩
    obtain ⟨dx, nl, dh, dp, own, h1, hnl, D, hw⟩ := id hp
    have few := hw.en.few
    have lst := len_starts z es
    walk_at "rd"
    refine ⟨sz_le (by decide), fun a ha => ?_⟩
    have e1 := Same.new (o := .lst []) (Same.refl H) ha
    have mno := fsS_noM (m := "span_starts") (by decide +kernel) (by decide +kernel) (by decide +kernel) (by decide +kernel) nl (es.length : Int) dh dp
    have mno2 := fsS_noM (m := "earliest_slots") (by decide +kernel) (by decide +kernel) (by decide +kernel) (by decide +kernel) nl (es.length : Int) dh dp
    refine ⟨true, dx, _, e1 _ _ h1, mno, p, z, ns, es, rfl, hp.same e1, fun b H1 hb e2 hbl => ⟨true, dx, _, e2 _ _ (e1 _ _ h1), mno2, p, z, ns, es, rfl, (hp.same e1).same e2, fun c H2 hc e3 hcl => ⟨b, c, ⟨rfl, rfl⟩, _, SqL.of (e3 _ _ hbl), _, SqL.of hcl, ?_⟩⟩⟩
    have nab : a ≠ b := ne_of_none upd_same hb
    have nac : a ≠ c := ne_of_none (e2 _ _ upd_same) hc
    refine loop_zip ((starts z es).map V.int) ((earl z ns es).map V.int) (fun i σ' H' => (∃ (f : Int) (vs : List V) (done : List (Int × Int)) (t3 t4 : Option V), σ' = [some (.ref p), some (.ref a), some (.int f), t3, t4] ∧ H' a = some (.lst vs) ∧ vs.length ≤ i ∧ DpAll K H' vs (done.map p2D) ∧ StepsAt H' vs done ∧ done ++ pushG f (((starts z es).zip (earl z ns es)).drop i) = push z ns es) ∧ H' b = some (.lst ((starts z es).map V.int)) ∧ H' c = some (.lst ((earl z ns es).map V.int)) ∧ Same H H') ⟨⟨0, [], [], _, _, rfl, e3 _ _ (e2 _ _ upd_same), Nat.le_refl _, .nil, .nil, rfl⟩, e3 _ _ hbl, hcl, (e1.trans e2).trans e3⟩ (fun i σ' H' k => ⟨SqL.of k.2.1, SqL.of k.2.2.1⟩) ?_ ?_
    · rintro i x y σ' H' t hi hj ⟨⟨f, vs, done, t3, t4, rfl, g1, g2, g3, g5, g4⟩, k1, k2, e⟩ ht
      rw [List.getElem?_map] at hi hj
      obtain ⟨st, hst, rfl⟩ := Option.map_eq_some_iff.mp hi
      obtain ⟨sl, hsl, rfl⟩ := Option.map_eq_some_iff.mp hj
      have hlt := (List.getElem?_eq_some_iff.mp hst).1
      have hz : ((starts z es).zip (earl z ns es))[i]? = some (st, sl) := by
        rw [List.getElem?_zip_eq_some]
        exact ⟨hst, hsl⟩
      rw [drop_one hz] at g4
      have ea := Same.new (o := .tup [.int st, .int sl]) e ht
      have eb := Same.new (o := .tup [.int st, .int sl]) (Same.refl H') ht
      refine ⟨t, _, rfl, SqT.of upd_same, rfl, _, _, rfl, _, _, rfl, rfl, ?_⟩
      have j1 := eb _ _ g1
      have j2 := eb _ _ k1
      have j3 := eb _ _ k2
      have j4 := dpAll_same eb _ _ g3
      have j5 : StepsAt (upd H' t (.tup [.int st, .int sl])) vs done := g5.same eb
      generalize upd H' t (.tup [.int st, .int sl]) = Ht at ea j1 j2 j3 j4 j5 ⊢
      walk_at "rd"
      rw [pushG_cons] at g4
      refine ite2 (fun h => ?_) (fun h => ?_)
      · rw [if_pos h, ← List.append_assoc] at g4
        refine ⟨.inl ⟨rfl, _, SqL.of j1⟩, sz_le (by decide), fun p2 hp2 => ?_⟩
        have e6 := Same.new (o := .tup [.int st, .int sl]) (Same.refl Ht) hp2
        refine ⟨a, vs, _, rfl, rfl, e6 _ _ j1, sz_lt (by omega), ⟨_, _, done ++ [(st, sl)], _, _, ⟨rfl, rfl, rfl⟩, upd_same, by rw [List.length_append, List.length_singleton]; omega, ?_, ?_, g4⟩, upd_keep (e6 _ _ j2) nab.symm, upd_keep (e6 _ _ j3) nac.symm, Nb.Same.mut (Same.new ea hp2) ha⟩
        · rw [List.map_append]
          exact dps_snoc (.tup (SqT.of (upd_keep upd_same (ne_of upd_same (e6 _ _ j1) (by simp)))) (.cons (.int _) (.cons (.int _) .nil))) (dps_pr (e6 _ _ j1) (dpAll_same e6 _ _ j4))
        · exact StepsAt.snoc (p := (st, sl)) (upd_keep upd_same (ne_of upd_same (e6 _ _ j1) (by simp))) ((j5.same e6).mut (e6 _ _ j1))
      · rw [if_neg h, List.nil_append] at g4
        exact ⟨⟨_, vs, done, _, _, ⟨rfl, rfl, rfl⟩, j1, by omega, j4, j5, g4⟩, j2, j3, ea⟩
    · rintro σ' H' ⟨⟨f, vs, done, t3, t4, rfl, g1, g2, g3, g6, g4⟩, k1, k2, e⟩
      rw [List.length_map, List.length_map, List.drop_of_length_le (by rw [List.length_zip]; exact Nat.le_refl _)] at g4
      walk_at "rd"
      have g5 : done = push z ns es := by rw [← g4]; exact (List.append_nil _).symm
      rw [g5] at g3 g6
      exact q a vs H' ha e g1 g3 g6
theorem ok_check_possible {f : Addr} {fd : FuncData} (F : d_check_possible.Is K f fd) (T : Txt K mg)
    (c_check_entries_possible : C8.Cal P w K mg base 11 "check_entries_possible" (sp_check_entries_possible K) [])
    (c_Log_size : C8.CalAt P w K mg base 1 (d_Log_size.way K) (sp_Log_size K))
    (c_Log_servers : C8.CalAt P w K mg base 1 (d_Log_servers.way K) (sp_Log_servers K))
    (c_Log_entries : C8.CalAt P w K mg base 1 (d_Log_entries.way K) (sp_Log_entries K)) :
    FnOk P w K mg base CX0 12 f fd ["log"] (sp_check_possible K) := by
  refine F.ok sc_check_possible (fun vs H Q E h => ?_) (fun cdv A outer s H vs Q E hr h => ?_)
  · obtain ⟨p, b, z, ns, es, rfl, hp, ho, q⟩ := h
    rfl
  · obtain ⟨p, b, z, ns, es, rfl, hp, ho, q⟩ := h
    refine ⟨_, PSs.nox (pss_one (ps_expr (C8.pe_c c_check_entries_possible hr (by decide) (by rfl) (pa_cons (pe_prp2 T.p_size c_Log_size hr (by decide) (pv 0)) (pa_cons (pe_prp2 T.p_servers c_Log_servers hr (by decide) (pv 0)) (pa_cons (pe_prp2 T.p_entries c_Log_entries hr (by decide) (pv 0)) pa_nil)))))), ?_⟩
    obtain ⟨dx, ls, le, h1, hls, hle, hw⟩ := id hp
    walk_at "rd"
    exact ⟨b, dx, _, h1, p, b, z, ns, es, rfl, hp, b, dx, _, h1, p, b, z, ns, es, rfl, hp, fun c H1 hc e1 hcc => ⟨b, dx, _, e1 _ _ h1, p, b, z, ns, es, rfl, hp.same e1, fun s' H2 hs' e2 hss => ⟨z, c, s', ns, es, rfl, hw, hcc.same e2, hss, ho, fun H3 e3 => q H3 ((e1.trans e2).trans e3)⟩⟩⟩
theorem ok_check_entries_possible {f : Addr} {fd : FuncData} (F : d_check_entries_possible.Is K f fd) (T : Txt K mg)
    (c_find_obstacle : C8.Cal P w K mg base 10 "find_obstacle" (sp_find_obstacle K) []) :
    FnOk P w K mg base CX0 11 f fd ["size", "servers", "entries"] (sp_check_entries_possible K) := by
  refine F.ok sc_check_entries_possible (fun vs H Q E h => ?_) (fun cdv A outer s H vs Q E hr h => ?_)
  · obtain ⟨z, c, s', ns, es, rfl, hw, hc, hs, ho, q⟩ := h
    rfl
  · obtain ⟨z, c, s', ns, es, rfl, hw, hc, hs, ho, q⟩ := h
    refine ⟨_, PSs.nox (pss_cons (ps_set (i := 3) sc_check_entries_possible.nd rfl (Or.inl rfl) (C8.pe_c c_find_obstacle hr (by decide) (by rfl) (pa_cons (pv 0) (pa_cons (pv 1) (pa_cons (pv 2) pa_nil)))))
        (pss_one (ps_if (pt_cmpR op_notN (pv 3) pe_non (nomark _))
          (pss_one ps_never)
          pss_nil))), ?_⟩
    walk_at "rd"
    refine ⟨z, c, s', ns, es, rfl, hw, hc, hs, fun v H1 e1 d1 _ => ?_⟩
    rw [ho] at d1
    cases d1
    exact ifN (by simp) (q _ e1)
theorem ok_Reach_init {f : Addr} {fd : FuncData} (F : d_Reach_init.Is K f fd) (T : Txt K mg)
    (c_sight_of : C8.Cal P w K mg base 3 "sight_of" (sp_sight_of K) [])
    (c_Sight_whole_spans : C8.CalAt P w K mg base 3 (d_Sight_whole_spans.way K) (sp_Sight_whole_spans K))
    (c_Sight_earliest_slots : C8.CalAt P w K mg base 7 (d_Sight_earliest_slots.way K) (sp_Sight_earliest_slots K))
    (c_Sight_latest_slots : C8.CalAt P w K mg base 7 (d_Sight_latest_slots.way K) (sp_Sight_latest_slots K)) :
    FnOk P w K mg base CX0 9 f fd ["self", "log"] (sp_Reach_init K) := by
  refine F.ok sc_Reach_init (fun vs H Q E h => ?_) (fun cdv A outer s H vs Q E hr h => ?_)
  · obtain ⟨r, dx, p, b, z, ns, es, rfl, hr0, hp, ho, q⟩ := h
    rfl
  · obtain ⟨r, dx, p, b, z, ns, es, rfl, hr0, hp, ho, q⟩ := h
    refine ⟨_, PSs.nox (pss_cons (ps_fld (pv 0) (C8.pe_c c_sight_of hr (by decide) (by rfl) (pa_cons (pv 1) pa_nil)) rfl)
        (pss_cons (ps_fld (pv 0) (pe_mt20 T.m_Sight_whole_spans c_Sight_whole_spans hr (by decide) (pe_fld (pv 0) rfl)) rfl)
        (pss_cons (ps_fld (pv 0) (pe_mt20 T.m_Sight_earliest_slots c_Sight_earliest_slots hr (by decide) (pe_fld (pv 0) rfl)) rfl)
        (pss_one (ps_fld (pv 0) (pe_mt20 T.m_Sight_latest_slots c_Sight_latest_slots hr (by decide) (pe_fld (pv 0) rfl)) rfl))))), ?_⟩
    refine cut_seq (fun σ H' => ∃ sg, σ = [some (.ref r), some (.ref p)] ∧ H' r = some (.ins (CR K) dx [("sight", .ref sg)]) ∧ SightAt K H' sg z ns es ∧ Keep r H H') (fun N hN => ?_) ?_
    · walk_at "rd"
      refine ⟨p, b, z, ns, es, rfl, hp, fun sg H1 e1 hS => ?_⟩
      have h1 := e1 _ _ hr0
      exact ⟨_, dx, _, h1, T.rf.cl, T.rf.nS, (by decide), hN _ _ ⟨sg, rfl, upd_same, mutI hS h1 (sight_ne hS h1 (fun _ _ _ _ h => by cases h)), fun a o n h => upd_keep (e1 _ _ h) n⟩⟩
    rintro σ1 H1 ⟨sg, rfl, hr1, hS1, k1⟩
    refine cut_seq (fun σ H' => ∃ sp ts, σ = [some (.ref r), some (.ref p)] ∧ H' r = some (.ins (CR K) dx [("sight", .ref sg), ("spans", .ref sp)]) ∧ SightAt K H' sg z ns es ∧ H' sp = some (.lst (ts.map V.ref)) ∧ Prs H' ts (spansP z es) ∧ Keep r H H') (fun N hN => ?_) ?_
    · walk_at "rd"
      obtain ⟨dx2, nl, dh, dp, own, g1, _⟩ := id hS1
      refine ⟨_, dx, _, hr1, T.rf.cl, T.rf.nS, _, rfl, sg, rfl, true, dx2, _, g1, fsS_noM (by decide +kernel) (by decide +kernel) (by decide +kernel) (by decide +kernel) _ _ _ _, sg, z, ns, es, rfl, hS1, fun sp ts H2 hsp0 e2 hsp hpr => ?_⟩
      have h2 := e2 _ _ hr1
      have nsp : sp ≠ r := ne_of hsp h2 (by simp)
      exact ⟨_, dx, _, h2, T.rf.cl, T.rf.nP, (by show 1 < 1000; decide), hN _ _ ⟨sp, ts, rfl, upd_same, mutI (hS1.same e2) h2 (sight_ne (hS1.same e2) h2 (fun _ _ _ _ h => by cases h)), upd_keep hsp nsp, hpr.imp fun t xs g => upd_keep g (ne_of g h2 (by simp)), fun a o n h => upd_keep (e2 _ _ (k1 a o n h)) n⟩⟩
    rintro σ2 H2 ⟨sp, ts, rfl, hr2, hS2, hsp2, hpr2, k2⟩
    refine cut_seq (fun σ H' => ∃ fi, σ = [some (.ref r), some (.ref p)] ∧ H' r = some (.ins (CR K) dx [("sight", .ref sg), ("spans", .ref sp), ("first_slots", .ref fi)]) ∧ SightAt K H' sg z ns es ∧ H' sp = some (.lst (ts.map V.ref)) ∧ Prs H' ts (spansP z es) ∧ H' fi = some (.lst ((earl z ns es).map V.int)) ∧ Keep r H H') (fun N hN => ?_) ?_
    · walk_at "rd"
      obtain ⟨dx2, nl, dh, dp, own, g1, _⟩ := id hS2
      refine ⟨_, dx, _, hr2, T.rf.cl, T.rf.nS, _, rfl, sg, rfl, true, dx2, _, g1, fsS_noM (by decide +kernel) (by decide +kernel) (by decide +kernel) (by decide +kernel) _ _ _ _, sg, z, ns, es, rfl, hS2, fun fi H3 hfi0 e3 hfi => ?_⟩
      have h3 := e3 _ _ hr2
      have nfi : fi ≠ r := ne_of hfi h3 (by simp)
      have hsp3 := e3 _ _ hsp2
      exact ⟨_, dx, _, h3, T.rf.cl, T.rf.nF, (by show 2 < 1000; decide), hN _ _ ⟨fi, rfl, upd_same, mutI (hS2.same e3) h3 (sight_ne (hS2.same e3) h3 (fun _ _ _ _ h => by cases h)), upd_keep hsp3 (ne_of hsp3 h3 (by simp)), hpr2.imp fun t xs g => upd_keep (e3 _ _ g) (ne_of (e3 _ _ g) h3 (by simp)), upd_keep hfi nfi, fun a o n h => upd_keep (e3 _ _ (k2 a o n h)) n⟩⟩
    rintro σ3 H3 ⟨fi, rfl, hr3, hS3, hsp3, hpr3, hfi3, k3⟩
    walk_at "rd"
    obtain ⟨dx2, nl, dh, dp, own, g1, _⟩ := id hS3
    refine ⟨_, dx, _, hr3, T.rf.cl, T.rf.nS, _, rfl, sg, rfl, true, dx2, _, g1, fsS_noM (by decide +kernel) (by decide +kernel) (by decide +kernel) (by decide +kernel) _ _ _ _, sg, z, ns, es, rfl, hS3, fun la H4 hla0 e4 hla => ?_⟩
    have h4 := e4 _ _ hr3
    have nla : la ≠ r := ne_of hla h4 (by simp)
    have hsp4 := e4 _ _ hsp3
    have hfi4 := e4 _ _ hfi3
    exact ⟨_, dx, _, h4, T.rf.cl, T.rf.nL, (by show 3 < 1000; decide), q _ (fun a o n h => upd_keep (e4 _ _ (k3 a o n h)) n) ⟨dx, sg, sp, fi, la, ts, upd_same, mutI (hS3.same e4) h4 (sight_ne (hS3.same e4) h4 (fun _ _ _ _ h => by cases h)), upd_keep hsp4 (ne_of hsp4 h4 (by simp)), hpr3.imp fun t xs g => upd_keep (e4 _ _ g) (ne_of (e4 _ _ g) h4 (by simp)), upd_keep hfi4 (ne_of hfi4 h4 (by simp)), upd_keep hla nla, ho⟩⟩
theorem ok_Reach_slots_in {f : Addr} {fd : FuncData} (F : d_Reach_slots_in.Is K f fd) (T : Txt K mg)
    (c_Sight_window_of : C8.CalAt P w K mg base 1 (d_Sight_window_of.way K) (sp_Sight_window_of K)) :
    FnOk P w K mg base CX0 3 f fd ["self", "index", "server"] (sp_Reach_slots_in K) := by
  refine F.ok sc_Reach_slots_in (fun vs H Q E h => ?_) (fun cdv A outer s H vs Q E hr h => ?_)
  · obtain ⟨r, i, n, f', z, ns, es, rfl, hR, hi, f0, f1, hn, q⟩ := h
    rfl
  · obtain ⟨r, i, n, f', z, ns, es, rfl, hR, hi, f0, f1, hn, q⟩ := h
    refine ⟨_, PSs.nox (pss_cons (ps_set (i := 3) sc_Reach_slots_in.nd rfl (Or.inl rfl) (pe_mt2 T.m_Sight_window_of c_Sight_window_of hr (by decide) (pe_fld (pv 0) rfl) (pa_cons (pv 2) (pa_cons (pe_ix ix_tup (pe_ix ix_list (pe_fld (pv 0) rfl) (pv 1) (fun _ _ => rfl)) pe_int (fun _ _ => rfl)) pa_nil))))
        (pss_cons (ps_if (pt_cmpR op_isN (pv 3) pe_non (nomark _))
          (pss_one (ps_ret pe_non))
          pss_nil)
        (pss_cons (ps_set (i := 4) sc_Reach_slots_in.nd rfl (Or.inl rfl) (pe_callB (call_max2 rfl) (by rfl) T.n_max (by decide +kernel) (pa_cons (pe_ix ix_tup (pv 3) pe_int (fun _ _ => rfl)) (pa_cons (pe_ix ix_list (pe_fld (pv 0) rfl) (pv 1) (fun _ _ => rfl)) pa_nil))))
        (pss_cons (ps_set (i := 5) sc_Reach_slots_in.nd rfl (Or.inl rfl) (pe_callB (call_min2 rfl) (by rfl) T.n_min (by decide +kernel) (pa_cons (pe_ix ix_tup (pv 3) pe_int (fun _ _ => rfl)) (pa_cons (pe_ix ix_list (pe_fld (pv 0) rfl) (pv 1) (fun _ _ => rfl)) pa_nil))))
        (pss_cons (ps_if (pt_cmpR op_gt (pv 4) (pv 5) (nomark _))
          (pss_one (ps_ret pe_non))
          pss_nil)
        (pss_one (ps_ret (pe_tup (pa_cons (pv 4) (pa_cons (pv 5) pa_nil)))))))))), ?_⟩
    obtain ⟨dx, sg, sp, fi, la, ts, h1, hS, hsp, hpr, hfi, hla, ho⟩ := id hR
    obtain ⟨dx2, nl, dh, dp, own, k1, hnl, D, hw⟩ := id hS
    have pos := wf_pos hw
    have hz1 := hw.sz.1
    have he : (earl z ns es)[i]? = some (eI z ns es f') := by
      rw [earl_eq hz1 pos ho, List.getElem?_map, hi]
      rfl
    have hl : (late z ns es)[i]? = some (lI z ns es f') := by
      rw [late_eq hz1 pos ho, List.getElem?_map, hi]
      rfl
    have hil := (List.getElem?_eq_some_iff.mp hi).1
    have tl := hpr.len
    rw [len_spansP] at tl
    obtain ⟨u, hu⟩ : ∃ u, ts[i]? = some u := ⟨_, List.getElem?_eq_getElem (by omega)⟩
    obtain ⟨pr, hpr1, hut⟩ := hpr.get hu
    have hpf : pr.1 = f' := by
      have := spans_get hpr1
      rw [hi] at this
      exact (Option.some.inj this).symm
    walk_at "rd"
    refine ⟨_, dx, _, h1, T.rf.cl, T.rf.nS, _, fsR_sight _ _ _ _, sg, rfl, true, dx2, _, k1, fsS_no _ _ _ _, _, dx, _, h1, T.rf.cl, T.rf.nP, _, fsR_spans _ _ _ _, sp, rfl, _, SqL.of hsp, _, atI_nat (by rw [List.getElem?_map, hu]; rfl), u, rfl, _, SqT.of hut, _, atI_nat (j := 0) rfl, sg, z, ns, es, n, pr.1, rfl, hS, hn, fun v H1 e1 d1 => ?_⟩
    rw [winD_eq, hpf] at d1
    unfold slO at q
    cases hwo : winO z es n f' with
    | none =>
      rw [hwo] at d1 q
      cases d1
      exact ifP rfl (q _ _ e1 .non)
    | some wn =>
      rw [hwo] at d1 q
      obtain ⟨t, rfl, ht⟩ := dp_pr (p := wn) d1
      refine ifN (by simp) ⟨t, rfl, _, ht, _, atI_nat (j := 0) rfl, _, dx, _, e1 _ _ h1, T.rf.cl, T.rf.nF, _, fsR_first _ _ _ _, fi, rfl, _, SqL.of (e1 _ _ hfi), _, atI_nat (by rw [List.getElem?_map, he]; rfl), _, _, ⟨rfl, rfl⟩, t, rfl, _, ht, _, atI_nat (j := 1) rfl, _, dx, _, e1 _ _ h1, T.rf.cl, T.rf.nL, _, fsR_last _ _ _ _, la, rfl, _, SqL.of (e1 _ _ hla), _, atI_nat (by rw [List.getElem?_map, hl]; rfl), _, _, ⟨rfl, rfl⟩, ?_⟩
      rw [gt_max, min_if, Int.min_comm (lI z ns es f') wn.2]
      refine ite2 (fun h => q _ _ e1 ?_) (fun h => ⟨sz_le (by decide), fun p hp => q _ _ (Same.new e1 hp) ?_⟩)
      · show Dp K _ _ (duD (if max wn.1 (eI z ns es f') ≤ min wn.2 (lI z ns es f') then some (max wn.1 (eI z ns es f'), min wn.2 (lI z ns es f')) else none))
        rw [if_neg (by omega)]
        exact .non
      · show Dp K _ _ (duD (if max wn.1 (eI z ns es f') ≤ min wn.2 (lI z ns es f') then some (max wn.1 (eI z ns es f'), min wn.2 (lI z ns es f')) else none))
        rw [if_pos (by omega)]
        exact .tup (SqT.of upd_same) (.cons (.int _) (.cons (.int _) .nil))
theorem ok_Reach_owners_in {f : Addr} {fd : FuncData} (F : d_Reach_owners_in.Is K f fd) (T : Txt K mg)
    (c_Reach_slots_in : C8.CalAt P w K mg base 3 (d_Reach_slots_in.way K) (sp_Reach_slots_in K)) :
    FnOk P w K mg base CX0 5 f fd ["self", "index"] (sp_Reach_owners_in K) := by
  refine F.ok sc_Reach_owners_in (fun vs H Q E h => ?_) (fun cdv A outer s H vs Q E hr h => ?_)
  · obtain ⟨r, i, f', z, ns, es, rfl, hR, hi, f0, f1, q⟩ := h
    rfl
  · obtain ⟨r, i, f', z, ns, es, rfl, hR, hi, f0, f1, q⟩ := h
    refine ⟨_, PSs.nox (pss_one (ps_ret (pe_lc (own := [("name", 2)]) (g := gName 2) (by rfl) sc_Reach_owners_in.nd (pi_list (pe_fld (pe_fld (pv 0) rfl) rfl)) (blkOk_by (N := ["self", "index", "name"]) (sc := defScope s_Reach_owners_in) (by decide +kernel)) (fun _ _ _ _ _ => (pg_name (i := 2) sc_Reach_owners_in.nd rfl (Or.inl rfl))) (fun _ _ _ _ _ => (pts_one (pt_cmpR op_notN (pe_mt2 T.m_Reach_slots_in c_Reach_slots_in hr (by decide) (pv 0) (pa_cons (pv 1) (pa_cons (pv 2) pa_nil))) pe_non (nomark _)))) (fun _ _ _ _ _ => (pv 2))))), ?_⟩
    obtain ⟨dx, sg, sp, fi, la, ts, h1, hS, hsp, hpr, hfi, hla, ho⟩ := id hR
    obtain ⟨dx2, nl, dh, dp, own, k1, hnl, D, hw⟩ := id hS
    have few := hw.cr.few
    walk_at "rd"
    refine ⟨_, dx, _, h1, T.rf.cl, T.rf.nS, _, fsR_sight _ _ _ _, sg, rfl, _, dx2, _, k1, T.sf.cl, T.sf.nN, _, fsS_names _ _ _ _, nl, rfl, ⟨_, SqL.of hnl⟩, fun L hL => comp_list (ns.map V.str) (fun j H' => Same H H' ∧ H' L = some (.lst (((ns.take j).filter fun n => (slO z ns es n f').isSome).map V.str))) ⟨Same.new (Same.refl _) hL, upd_same⟩ (fun i H' _ k => SqL.of (k.1 _ _ hnl)) ?_ ?_⟩
    · rintro j x H' hj ⟨e, g1⟩
      rw [List.getElem?_map] at hj
      obtain ⟨n, hn, rfl⟩ := Option.map_eq_some_iff.mp hj
      have hjl := (List.getElem?_eq_some_iff.mp hn).1
      walk_at "rd"
      rw [List.take_add_one, hn, List.filter_append]
      refine ⟨true, dx, _, e _ _ h1, fsR_no (by decide +kernel) (by decide +kernel) (by decide +kernel) (by decide +kernel) _ _ _ _, r, i, n, f', z, ns, es, rfl, hR.same e, hi, f0, f1, List.mem_of_getElem? hn, fun v H2 e2 d2 => ?_⟩
      have gl : ((ns.take j).filter fun n => (slO z ns es n f').isSome).length ≤ 12 := Nat.le_trans (List.length_filter_le _ _) (by rw [List.length_take]; omega)
      cases hs : slO z ns es n f' with
      | none =>
        rw [hs] at d2
        cases d2
        refine ifN (by simp) ⟨e.trans e2, ?_⟩
        rw [e2 _ _ g1, show (some n).toList = [n] from rfl, List.filter_cons_of_neg (by rw [hs]; decide), List.filter_nil, List.append_nil]
      | some pr =>
        rw [hs] at d2
        obtain ⟨t, rfl, ht⟩ := dp_pr (p := pr) d2
        refine ifP (by simp) ⟨_, e2 _ _ g1, sz_lt (by rw [List.length_map]; omega), Nb.Same.mut (e.trans e2) hL, ?_⟩
        rw [upd_same, show (some n).toList = [n] from rfl, List.filter_cons_of_pos (by rw [hs]; rfl), List.map_append]
        rfl
    · rintro H' ⟨e, g1⟩
      rw [List.length_map, List.take_length] at g1
      exact q L H' hL e g1
theorem ok_owners_by_block {f : Addr} {fd : FuncData} (F : d_owners_by_block.Is K f fd) (T : Txt K mg)
    (c_Log_last_block : C8.CalAt P w K mg base 1 (d_Log_last_block.way K) (sp_Log_last_block K))
    (c_check_possible : C8.Cal P w K mg base 12 "check_possible" (sp_check_possible K) [])
    (c_mk_Reach : C8.Mak P w K mg base 9 "Reach" (He.ga K "Reach") (sp_Reach_init K) [])
    (c_Reach_owners_in : C8.CalAt P w K mg base 5 (d_Reach_owners_in.way K) (sp_Reach_owners_in K)) :
    FnOk P w K mg base CX0 13 f fd ["log"] (sp_owners_by_block K) := by
  refine F.ok sc_owners_by_block (fun vs H Q E h => ?_) (fun cdv A outer s H vs Q E hr h => ?_)
  · obtain ⟨p, b, z, ns, es, rfl, hp, ht, ho, q⟩ := h
    rfl
  · obtain ⟨p, b, z, ns, es, rfl, hp, ht, ho, q⟩ := h
    refine ⟨_, PSs.nox (pss_cons (ps_if (pt_cmpR op_gt (pe_mt20 T.m_Log_last_block c_Log_last_block hr (by decide) (pv 0)) (C8.pe_gc (by rfl) T.g_GREATEST_BLOCK) (nomark _))
          (pss_one ps_never)
          pss_nil)
        (pss_cons (ps_expr (C8.pe_c c_check_possible hr (by decide) (by rfl) (pa_cons (pv 0) pa_nil)))
        (pss_cons (ps_set (i := 1) sc_owners_by_block.nd rfl (Or.inl rfl) (C8.pe_mk c_mk_Reach hr (by decide) (by rfl) (pa_cons (pv 0) pa_nil)))
        (pss_cons (ps_set (i := 2) sc_owners_by_block.nd rfl (Or.inl rfl) (pe_lst pa_nil))
        (pss_cons (ps_for PassesOwn.never rfl (pi_enum (by rfl) T.n_enumerate (pa_cons (pe_fld (pv 1) rfl) pa_nil)) (pg_tup (by rfl) (pgs_cons (pg_name (i := 3) sc_owners_by_block.nd rfl (Or.inl rfl)) (pgs_cons (pg_tup (by rfl) (pgs_cons (pg_name (i := 4) sc_owners_by_block.nd rfl (Or.inl rfl)) (pgs_cons (pg_name (i := 5) sc_owners_by_block.nd rfl (Or.inl rfl)) pgs_nil))) pgs_nil)))
          (pss_one (ps_expr (pe_bm PySem.F.plainAttrs_list PySem.F.slot_list_extend PySem.F.type_list_extend mt_extend (pv 2) (pa_cons (pe_op op_rep (pe_lst (pa_cons (pe_mt2 T.m_Reach_owners_in c_Reach_owners_in hr (by decide) (pv 1) (pa_cons (pv 3) pa_nil)) pa_nil)) (pe_op op_sub (pe_op op_add (pv 5) pe_int) (pv 4))) pa_nil)))))
        (pss_one (ps_ret (pv 2)))))))), ?_⟩
    obtain ⟨dx0, _, _, hp1, _, _, hw⟩ := id hp
    have pos := wf_pos hw
    have hz1 := hw.sz.1
    refine cut_seq (fun σ H' => σ = [some (.ref p), none, none, none, none, none] ∧ Same H H') (fun N hN => ?_) ?_
    · walk_at "rd"
      exact ⟨b, dx0, _, hp1, fsL_no (by decide +kernel) (by decide +kernel) (by decide +kernel) _ _ _, p, b, z, ns, es, rfl, hp, fun G u => ⟨_, rfl, ifN (by omega) (hN _ _ ⟨rfl, u⟩)⟩⟩
    rintro σ1 H1 ⟨rfl, e1⟩
    refine cut_seq (fun σ H' => σ = [some (.ref p), none, none, none, none, none] ∧ Same H H') (fun N hN => ?_) ?_
    · walk_at "rd"
      exact ⟨p, b, z, ns, es, rfl, hp.same e1, ho, fun H2 e2 => hN _ _ ⟨rfl, e1.trans e2⟩⟩
    rintro σ2 H2 ⟨rfl, e2⟩
    refine cut_seq (fun σ H' => ∃ r, σ = [some (.ref p), some (.ref r), none, none, none, none] ∧ ReachAt K H' r z ns es ∧ Same H H') (fun N hN => ?_) ?_
    · walk_at "rd"
      intro x d hx hd nd
      have e3 : Same H2 (upd (upd H2 d (.own x)) x (.ins (CR K) d [])) := Same.new (Same.new (Same.refl _) hd) (by rw [upd_ne nd.symm]; exact hx)
      refine ⟨x, d, p, b, z, ns, es, rfl, upd_same, (hp.same e2).same e3, ho, fun H' k hR => ⟨rfl, hN _ _ ⟨x, rfl, hR, fun a o h => k a o (ne_of_none (e2 _ _ h) hx) (e3 _ _ (e2 _ _ h))⟩⟩⟩
    rintro σ3 H3 ⟨r, rfl, hr3, e3⟩
    obtain ⟨dx, sg, sp, fi, la, ts, h1, hS, hsp, hpr, _⟩ := id hr3
    have tl := hpr.len
    rw [spansP_eq hz1 pos] at hpr tl
    walk_at "rd"
    refine ⟨Nat.zero_le _, fun l hl => ?_⟩
    have hl0 := e3.free hl
    have k0 := Same.new (o := .lst []) (Same.refl H3) hl
    refine ⟨_, dx, _, k0 _ _ h1, T.rf.cl, T.rf.nP, _, fsR_spans _ _ _ _, sp, rfl, _, SqL.of (k0 _ _ hsp), loop_enum (ts.map V.ref) (fun i σ' H' => (∃ t3 t4 t5, σ' = [some (.ref p), some (.ref r), some (.ref l), t3, t4, t5]) ∧ (∃ rs : List Addr, H' l = some (.lst (rs.map V.ref)) ∧ (rs.length : Int) = lenS ((spansL z es).take i) ∧ ∀ (q : Nat) r, rs[q]? = some r → H' r = some (.lst ((ownL z ns es (q : Int)).map V.str)) ∧ r ≠ l) ∧ Same H3 H') ⟨⟨_, _, _, rfl⟩, ⟨[], upd_same, rfl, fun q r h => by simp at h⟩, k0⟩ (fun i σ' H' _ k => SqL.of (k.2.2 _ _ hsp)) ?_ ?_⟩
    · rintro i x σ' H' t hi ⟨⟨t3, t4, t5, rfl⟩, ⟨rs, g1, g2, g3⟩, e⟩ hT
      rw [List.getElem?_map] at hi
      obtain ⟨u, hu, rfl⟩ := Option.map_eq_some_iff.mp hi
      obtain ⟨pr, hpr1, hut⟩ := hpr.get hu
      have hsg := span_top hz1 pos (List.mem_of_getElem? hpr1)
      have hfi := span_first hz1 pos hpr1
      have hls := lenS_step hpr1
      have kT := Same.new (o := .tup [.int (i : Int), .ref u]) e hT
      have kt1 := Same.new (o := .tup [.int (i : Int), .ref u]) (Same.refl H') hT
      have g1' := kt1 _ _ g1
      refine ⟨t, _, rfl, SqT.of upd_same, rfl, _, _, rfl, _, _, rfl, u, _, rfl, SqT.of (kT _ _ hut), rfl, _, _, rfl, _, _, rfl, rfl, rfl, ?_⟩
      generalize upd H' t (.tup [.int (i : Int), .ref u]) = Ht at kT kt1 g1' ⊢
      have hst : (starts z es)[i]? = some pr.1 := by
        rw [← spansL_fst, List.getElem?_map, hpr1]
        rfl
      walk_at "rd"
      refine ⟨.inl ⟨rfl, _, SqL.of g1'⟩, true, dx, _, kT _ _ h1, fsR_no (by decide +kernel) (by decide +kernel) (by decide +kernel) (by decide +kernel) _ _ _ _, r, i, pr.1, z, ns, es, rfl, hr3.same kT, hst, hsg.1, by omega, fun a H5 ha e5 h5 => ⟨sz_le (by decide), fun p5 hp5 => ⟨p5, _, _, rfl, rfl, upd_same, by omega, by omega, by rw [List.length_singleton, Nat.one_mul]; exact sz_le (by omega), fun p6 hp6 => ?_⟩⟩⟩
      have s5 := Same.new (o := .lst [V.ref a]) (Same.refl H5) hp5
      rw [rep_flat]
      have s6 := Same.new (o := .lst ((List.replicate (pr.2 + 1 - pr.1).toNat a).map V.ref)) s5 hp6
      have z6 := e5.trans s6
      have nal : a ≠ l := ne_of_none g1' ha |>.symm
      refine ⟨l, p6, _, _, rfl, rfl, z6 _ _ g1', upd_same, sz_le (by rw [List.length_map, List.length_map, List.length_replicate]; omega), ⟨_, rfl⟩, ⟨rs ++ List.replicate (pr.2 + 1 - pr.1).toNat a, by rw [upd_same, List.map_append], ?_, fun q r hq => ?_⟩, Nb.Same.mut (kT.trans z6) hl⟩
      · rw [List.length_append, List.length_replicate, hls]
        omega
      · rcases Nat.lt_or_ge q rs.length with h | h
        · rw [List.getElem?_append_left h] at hq
          obtain ⟨c1, c2⟩ := g3 q r hq
          exact ⟨upd_keep (z6 _ _ (kt1 _ _ c1)) c2, c2⟩
        · rw [List.getElem?_append_right h] at hq
          have hq2 := (List.getElem?_eq_some_iff.mp hq).1
          rw [List.length_replicate] at hq2
          rw [List.getElem?_replicate, if_pos hq2] at hq
          have har : a = r := Option.some.inj hq
          subst har
          obtain ⟨aE, aL, aW⟩ := span_alike (q := (q : Int)) (ns := ns) hz1 pos ho (List.mem_of_getElem? hpr1) (by omega) (by omega)
          refine ⟨upd_keep (s6 _ _ ?_) nal, nal⟩
          rw [← ownL_congr aE aL aW]
          exact h5
    · rintro σ' H' ⟨⟨t3, t4, t5, rfl⟩, ⟨rs, g1, g2, g3⟩, e⟩
      rw [List.length_map, tl, List.take_length, spans_len hz1 pos] at g2
      walk_at "rd"
      exact q l rs H' hl0 (e3.trans e) g1 ⟨g2, fun q r h => (g3 q r h).1⟩
theorem ok_count_rows {f : Addr} {fd : FuncData} (F : d_count_rows.Is K f fd) (T : Txt K mg) :
    FnOk P w K mg base CX0 1 f fd ["rows"] (sp_count_rows K) := by
  refine F.ok sc_count_rows (fun vs H Q E h => ?_) (fun cdv A outer s H vs Q E hr h => ?_)
  · obtain ⟨a, rs, z, ns, es, rfl, ha, hR, ht, h12, q⟩ := h
    rfl
  · obtain ⟨a, rs, z, ns, es, rfl, ha, hR, ht, h12, q⟩ := h
    refine ⟨_, PSs.nox (pss_cons (ps_set (i := 1) sc_count_rows.nd rfl (Or.inl rfl) pe_int)
        (pss_cons (ps_for PassesOwn.never rfl (pi_list (pv 0)) (pg_name (i := 2) sc_count_rows.nd rfl (Or.inl rfl))
          (pss_one (ps_set (i := 1) sc_count_rows.nd rfl (Or.inl rfl) (pe_op op_mulW (pv 1) (pe_callB call_len_seq (by rfl) T.n_len (by decide +kernel) (pa_cons (pv 2) pa_nil))))))
        (pss_one (ps_ret (pv 1))))), ?_⟩
    walk_at "rd"
    refine ⟨⟨_, SqL.of ha⟩, loop_list (rs.map V.ref) (fun i σ' H' => (∃ t2, σ' = [some (.ref a), some (.int (prodO z ns es 0 i)), t2]) ∧ H' = H) ⟨⟨_, rfl⟩, rfl⟩ (fun i σ' H' _ k => by rw [k.2]; exact SqL.of ha) ?_ ?_⟩
    · rintro i x σ' H' hi ⟨⟨t2, rfl⟩, rfl⟩
      rw [List.getElem?_map] at hi
      obtain ⟨r, hr, rfl⟩ := Option.map_eq_some_iff.mp hi
      have hil := (List.getElem?_eq_some_iff.mp hr).1
      have hrow := hR.2 i r hr
      have h1 := hR.1
      have bd := prodO_bd (z := z) (es := es) h12 i 0
      have ol := own_len (z := z) (q := (i : Int)) (ns := ns) (es := es)
      simp only [gName, List.set_cons_succ, List.set_cons_zero]
      walk_at "rd"
      refine ⟨_, .inl (SqL.of hrow), mul12 bd.1 (Int.le_trans bd.2 (pow12 (by omega))) (by omega) (by rw [List.length_map]; omega), ?_, _, rfl⟩
      rw [prodO_snoc, List.length_map, show (0 : Int) + (i : Int) = i by omega]
    · rintro σ' H' ⟨⟨t2, rfl⟩, rfl⟩
      walk_at "rd"
      have h1 := hR.1
      have := q _ (Same.refl _)
      unfold cntO at this
      rw [show (topB z es + 1).toNat = (rs.map V.ref).length by rw [List.length_map]; omega] at this
      exact this
theorem ok_count_lists {f : Addr} {fd : FuncData} (F : d_count_lists.Is K f fd) (T : Txt K mg)
    (c_count_rows : C8.Cal P w K mg base 1 "count_rows" (sp_count_rows K) [])
    (c_owners_by_block : C8.Cal P w K mg base 13 "owners_by_block" (sp_owners_by_block K) []) :
    FnOk P w K mg base CX0 14 f fd ["log"] (sp_count_lists K) := by
  refine F.ok sc_count_lists (fun vs H Q E h => ?_) (fun cdv A outer s H vs Q E hr h => ?_)
  · obtain ⟨p, b, z, ns, es, rfl, hp, ht, ho, q⟩ := h
    rfl
  · obtain ⟨p, b, z, ns, es, rfl, hp, ht, ho, q⟩ := h
    refine ⟨_, PSs.nox (pss_one (ps_ret (C8.pe_c c_count_rows hr (by decide) (by rfl) (pa_cons (C8.pe_c c_owners_by_block hr (by decide) (by rfl) (pa_cons (pv 0) pa_nil)) pa_nil)))), ?_⟩
    obtain ⟨_, _, _, _, _, _, hw⟩ := id hp
    walk_at "rd"
    exact ⟨p, b, z, ns, es, rfl, hp, ht, ho, fun a rs H1 _ e1 ha hR => ⟨a, rs, z, ns, es, rfl, ha, hR, ht, hw.cr.few.2, fun H2 e2 => q H2 (e1.trans e2)⟩⟩
theorem ok_nth_list {f : Addr} {fd : FuncData} (F : d_nth_list.Is K f fd) (T : Txt K mg)
    (c_owners_by_block : C8.Cal P w K mg base 13 "owners_by_block" (sp_owners_by_block K) [])
    (c_check_count : C8.Cal P w K mg base 3 "check_count" (sp_check_count K) [])
    (c_count_rows : C8.Cal P w K mg base 1 "count_rows" (sp_count_rows K) []) :
    FnOk P w K mg base CX0 14 f fd ["log", "index"] (sp_nth_list K) := by
  refine F.ok sc_nth_list (fun vs H Q E h => ?_) (fun cdv A outer s H vs Q E hr h => ?_)
  · obtain ⟨p, b, z, ns, es, i, rfl, hp, ht, ho, i0, i1, q⟩ := h
    rfl
  · obtain ⟨p, b, z, ns, es, i, rfl, hp, ht, ho, i0, i1, q⟩ := h
    refine ⟨_, PSs.nox (pss_cons (ps_set (i := 2) sc_nth_list.nd rfl (Or.inl rfl) (C8.pe_c c_owners_by_block hr (by decide) (by rfl) (pa_cons (pv 0) pa_nil)))
        (pss_cons (ps_expr (C8.pe_c c_check_count hr (by decide) (by rfl) (pa_cons (pv 1) (pa_cons (pe_op op_sub (C8.pe_c c_count_rows hr (by decide) (by rfl) (pa_cons (pv 2) pa_nil)) pe_int) pa_nil))))
        (pss_cons (ps_set (i := 3) sc_nth_list.nd rfl (Or.inl rfl) (pe_lst pa_nil))
        (pss_cons (ps_set (i := 4) sc_nth_list.nd rfl (Or.inl rfl) (pv 1))
        (pss_cons (ps_for PassesOwn.never rfl (pi_reversed (by rfl) T.n_reversed (pa_cons (pv 2) pa_nil)) (pg_name (i := 5) sc_nth_list.nd rfl (Or.inl rfl))
          (pss_cons (ps_expr (pe_bm PySem.F.plainAttrs_list PySem.F.slot_list_append PySem.F.type_list_append mt_append (pv 3) (pa_cons (pe_ix ix_list (pv 5) (pe_op op_mod (pv 4) (pe_callB call_len_seq (by rfl) T.n_len (by decide +kernel) (pa_cons (pv 5) pa_nil))) (fun _ _ => rfl)) pa_nil)))
          (pss_one (ps_set (i := 4) sc_nth_list.nd rfl (Or.inl rfl) (pe_op op_fdivW (pv 4) (pe_callB call_len_seq (by rfl) T.n_len (by decide +kernel) (pa_cons (pv 5) pa_nil)))))))
        (pss_one (ps_ret (pe_revL (pv 3))))))))), ?_⟩
    obtain ⟨_, _, _, _, _, _, hw⟩ := id hp
    have pos := wf_pos hw
    have hz1 := hw.sz.1
    have hg := good_rows hz1 pos ho hw.cr.nd
    have tge := top_ge hz1 pos
    have cb := cnt_bd (z := z) (ns := ns) (es := es) hw.cr.few.2 ht
    refine cut_seq (fun σ H' => ∃ a rs, σ = [some (.ref p), some (.int i), some (.ref a), none, none, none] ∧ H' a = some (.lst (rs.map V.ref)) ∧ RowsO H' rs z ns es ∧ Same H H') (fun N hN => ?_) ?_
    · walk_at "rd"
      exact ⟨p, b, z, ns, es, rfl, hp, ht, ho, fun a rs H1 _ e1 ha hR => hN _ _ ⟨a, rs, rfl, ha, hR, e1⟩⟩
    rintro σ1 H1 ⟨ro, rs, rfl, hro, hR, e1⟩
    refine cut_seq (fun σ H' => σ = [some (.ref p), some (.int i), some (.ref ro), none, none, none] ∧ Same H1 H') (fun N hN => ?_) ?_
    · walk_at "rd"
      exact ⟨ro, rs, z, ns, es, rfl, hro, hR, ht, hw.cr.few.2, fun H2 e2 => ⟨_, rfl, i, _, rfl, i0, by omega, hN _ _ ⟨rfl, e2⟩⟩⟩
    rintro σ2 H2 ⟨rfl, e2⟩
    refine cut_seq (fun σ H' => ∃ l, σ = [some (.ref p), some (.int i), some (.ref ro), some (.ref l), none, none] ∧ H2 l = none ∧ H' = upd H2 l (.lst [])) (fun N hN => ?_) ?_
    · walk_at "rd"
      exact ⟨Nat.zero_le _, fun l hl => hN _ _ ⟨l, rfl, hl, rfl⟩⟩
    rintro σ3 H3 ⟨l, rfl, hl, rfl⟩
    have hro2 := e2 _ _ hro
    have k0 := Same.new (o := .lst []) (Same.refl H2) hl
    have rl := hR.1
    have rrl : (rowsO z ns es).reverse.length = rs.length := by
      rw [List.length_reverse, rowsO_len]
      omega
    walk_at "rd"
    refine ⟨_, SqL.of (k0 _ _ hro2), loop_rev (rs.map V.ref) (fun j σ' H' => ∃ (done : List Str) (rest : Int) (t5 : Option V), σ' = [some (.ref p), some (.int i), some (.ref ro), some (.ref l), some (.int rest), t5] ∧ H' l = some (.lst (done.map V.str)) ∧ done.length = j ∧ done ++ nthR ((rowsO z ns es).reverse.drop j) rest = nthR (rowsO z ns es).reverse i ∧ Same H2 H') ⟨[], i, _, rfl, upd_same, rfl, rfl, k0⟩ (fun j σ' H' _ ⟨_, _, _, _, _, _, _, k⟩ => SqL.of (k _ _ hro2)) ?_ ?_⟩
    · rintro j x σ' H' hj ⟨done, rest, t5, rfl, g1, g2, g3, e⟩
      rw [← List.map_reverse, List.getElem?_map] at hj
      obtain ⟨r, hr, rfl⟩ := Option.map_eq_some_iff.mp hj
      have hjl := (List.getElem?_eq_some_iff.mp hr).1
      rw [List.length_reverse] at hjl
      rw [List.getElem?_reverse hjl] at hr
      have hrow := e _ _ (e2 _ _ (hR.2 _ r hr))
      have hget : (rowsO z ns es).reverse[j]? = some (ownL z ns es ((rs.length - 1 - j : Nat) : Int)) := by
        rw [List.getElem?_reverse (by rw [rowsO_len]; omega), rowsO_len]
        have := rowsO_get (z := z) (ns := ns) (es := es) (q := (topB z es + 1).toNat - 1 - j) (by omega)
        rw [this, show (topB z es + 1).toNat - 1 - j = rs.length - 1 - j by omega]
      have ol12 := own_len (z := z) (q := ((rs.length - 1 - j : Nat) : Int)) (ns := ns) (es := es)
      have nl12 := hw.cr.few.2
      generalize ownL z ns es ((rs.length - 1 - j : Nat) : Int) = o at hrow hget ol12
      have hoi := hg o (List.mem_of_getElem? hget)
      have ol := List.length_pos_iff.mpr hoi.1
      have hdrop : (rowsO z ns es).reverse.drop j = o :: (rowsO z ns es).reverse.drop (j + 1) := by
        have h1 := (List.getElem?_eq_some_iff.mp hget)
        rw [List.drop_eq_getElem_cons h1.1, h1.2]
      rw [hdrop] at g3
      have m0 := Int.emod_nonneg rest (show (o.length : Int) ≠ 0 by omega)
      have m1 := Int.emod_lt_of_pos rest (show 0 < (o.length : Int) by omega)
      obtain ⟨m, hm⟩ : ∃ m : Nat, rest % (o.length : Int) = (m : Int) := ⟨(rest % (o.length : Int)).toNat, by omega⟩
      have hml : m < o.length := by omega
      simp only [gName, List.set_cons_succ, List.set_cons_zero]
      walk_at "rd"
      have go : o.getD m "" = o[m] := by rw [List.getD_eq_getElem?_getD, List.getElem?_eq_getElem hml]; rfl
      refine ⟨.inl ⟨rfl, _, SqL.of g1⟩, _, .inl (SqL.of hrow), by rw [List.length_map]; omega, _, SqL.of hrow, .str o[m], ?_, l, _, _, rfl, rfl, g1, sz_lt (by rw [List.length_map]; omega), ?_⟩
      · rw [List.length_map, hm]
        exact atI_nat (by rw [List.getElem?_map, List.getElem?_eq_getElem hml]; rfl)
      have nrl : r ≠ l := fun h => by
        have := e2 _ _ (hR.2 _ r hr)
        rw [h, hl] at this
        cases this
      have on12 : o.length ≤ 1000 := by omega
      refine ⟨_, .inl (SqL.of (upd_keep hrow nrl)), by rw [List.length_map]; exact div_ok (by omega) (Int.le_trans (b := 1000) (by omega) (by decide +kernel)), done ++ [o[m]], rest / (o.length : Int), _, ⟨by rw [List.length_map], rfl⟩, by rw [upd_same, List.map_append]; rfl, by rw [List.length_append, g2]; rfl, ?_, Nb.Same.mut e hl⟩
      rw [← g3, List.append_assoc]
      show _ = done ++ (o.getD (rest % (o.length : Int)).toNat "" :: nthR _ _)
      rw [hm, Int.toNat_natCast, go]
      rfl
    · rintro σ' H' ⟨done, rest, t5, rfl, g1, g2, g3, e⟩
      rw [List.length_map] at g2 g3
      rw [List.drop_eq_nil_iff.mpr (by omega)] at g3
      walk_at "rd"
      refine ⟨_, SqL.of g1, fun c hc => q c _ ((e1.trans (e2.trans e)).free hc) (Same.new (e1.trans (e2.trans e)) hc) ?_⟩
      rw [upd_same, ← List.map_reverse]
      unfold nthO
      rw [← g3]
      show _ = some (HO.lst ((done ++ []).reverse.map V.str))
      rw [List.append_nil]
theorem ok_list_index {f : Addr} {fd : FuncData} (F : d_list_index.Is K f fd) (T : Txt K mg)
    (c_owners_by_block : C8.Cal P w K mg base 13 "owners_by_block" (sp_owners_by_block K) [])
    (c_place_in : C8.Cal P w K mg base 1 "place_in" (sp_place_in K) []) :
    FnOk P w K mg base CX0 14 f fd ["log", "owners"] (sp_list_index K) := by
  refine F.ok sc_list_index (fun vs H Q E h => ?_) (fun cdv A outer s H vs Q E hr h => ?_)
  · obtain ⟨p, b, z, ns, es, l, xs, rfl, hp, ht, ho, hl, hv, q⟩ := h
    rfl
  · obtain ⟨p, b, z, ns, es, l, xs, rfl, hp, ht, ho, hl, hv, q⟩ := h
    refine ⟨_, PSs.nox (pss_cons (ps_set (i := 2) sc_list_index.nd rfl (Or.inl rfl) (C8.pe_c c_owners_by_block hr (by decide) (by rfl) (pa_cons (pv 0) pa_nil)))
        (pss_cons (ps_if (PW.pt (pw_or (pt_not (pt_val (pe_callB call_isi (by rfl) T.n_isinstance (by decide +kernel) (pa_cons (pv 1) (pa_cons (pe_bltn (v := .ty "list") (by rfl) T.n_list (by decide +kernel) rfl) pa_nil))))) (pw_or1 (pt_cmpR op_ne (pe_callB call_len_seq (by rfl) T.n_len (by decide +kernel) (pa_cons (pv 1) pa_nil)) (pe_callB call_len_seq (by rfl) T.n_len (by decide +kernel) (pa_cons (pv 2) pa_nil)) (nomark _)))))
          (pss_one ps_never)
          pss_nil)
        (pss_cons (ps_set (i := 3) sc_list_index.nd rfl (Or.inl rfl) pe_int)
        (pss_cons (ps_for PassesOwn.never rfl (pi_zip (by rfl) T.n_zip (pa_cons (pv 2) (pa_cons (pv 1) pa_nil))) (pg_tup (by rfl) (pgs_cons (pg_name (i := 4) sc_list_index.nd rfl (Or.inl rfl)) (pgs_cons (pg_name (i := 5) sc_list_index.nd rfl (Or.inl rfl)) pgs_nil)))
          (pss_one (ps_set (i := 3) sc_list_index.nd rfl (Or.inl rfl) (pe_op op_add (pe_op op_mulW (pv 3) (pe_callB call_len_seq (by rfl) T.n_len (by decide +kernel) (pa_cons (pv 4) pa_nil))) (C8.pe_c c_place_in hr (by decide) (by rfl) (pa_cons (pv 4) (pa_cons (pv 5) pa_nil)))))))
        (pss_one (ps_ret (pv 3))))))), ?_⟩
    obtain ⟨_, _, _, _, _, _, hw⟩ := id hp
    have pos := wf_pos hw
    have hz1 := hw.sz.1
    have hg := good_rows hz1 pos ho hw.cr.nd
    have tge := top_ge hz1 pos
    have cb := cnt_bd (z := z) (ns := ns) (es := es) hw.cr.few.2 ht
    refine cut_seq (fun σ H' => ∃ a rs, σ = [some (.ref p), some (.ref l), some (.ref a), none, none, none] ∧ H' a = some (.lst (rs.map V.ref)) ∧ RowsO H' rs z ns es ∧ Same H H') (fun N hN => ?_) ?_
    · walk_at "rd"
      exact ⟨p, b, z, ns, es, rfl, hp, ht, ho, fun a rs H1 _ e1 ha hR => hN _ _ ⟨a, rs, rfl, ha, hR, e1⟩⟩
    rintro σ1 H1 ⟨ro, rs, rfl, hro, hR, e1⟩
    have hl1 := e1 _ _ hl
    have rl := hR.1
    have xl : xs.length = rs.length := by
      have := valid_len hv
      rw [List.length_reverse, List.length_reverse, rowsO_len] at this
      omega
    refine cut_seq (fun σ H' => σ = [some (.ref p), some (.ref l), some (.ref ro), none, none, none] ∧ H' = H1) (fun N hN => ?_) ?_
    · walk_at "rd"
      exact isi_b T.lf (.lst hl1) (.inr (.inr (.inr (.inl rfl)))) ⟨_, rfl, ifN (by decide +kernel) ⟨_, .inl (SqL.of hl1), _, .inl (SqL.of hro), rfl, _, rfl, ifN (by rw [List.length_map, List.length_map, xl]; simp) (hN _ _ ⟨rfl, rfl⟩)⟩⟩
    rintro σ2 H2 ⟨rfl, rfl⟩
    walk_at "rd"
    refine ⟨_, _, ⟨rfl, rfl⟩, _, SqL.of hro, _, SqL.of hl1, loop_zip (rs.map V.ref) (xs.map V.str) (fun j σ' H' => (∃ (t4 t5 : Option V), σ' = [some (.ref p), some (.ref l), some (.ref ro), some (.int (idxR ((rowsO z ns es).take j).reverse (xs.take j).reverse)), t4, t5]) ∧ Same H2 H') ⟨⟨_, _, rfl⟩, Same.refl _⟩ (fun j σ' H' k => ⟨SqL.of (k.2 _ _ hro), SqL.of (k.2 _ _ hl1)⟩) ?_ ?_⟩
    · rintro j x y σ' H' T hx hy ⟨⟨t4, t5, rfl⟩, e⟩ hT
      rw [List.getElem?_map] at hx hy
      obtain ⟨r, hr, rfl⟩ := Option.map_eq_some_iff.mp hx
      obtain ⟨x, hxs, rfl⟩ := Option.map_eq_some_iff.mp hy
      have hjl := (List.getElem?_eq_some_iff.mp hr).1
      have hin := validO_get hv hxs
      obtain ⟨b0, b1⟩ := idx_take hg hv (j := j) (by omega)
      have bp := prodO_bd (z := z) (ns := ns) (es := es) hw.cr.few.2 j 0
      have p12 := pow12 (k := j) (by omega)
      have ol := own_len (z := z) (q := (j : Int)) (ns := ns) (es := es)
      have nl12 := hw.cr.few.2
      have kT := Same.new (o := .tup [.ref r, .str x]) e hT
      simp only [gTup, gCons, gNil, gName, List.set_cons_succ, List.set_cons_zero]
      refine ⟨T, _, rfl, SqT.of upd_same, rfl, _, _, rfl, _, _, rfl, rfl, ?_⟩
      have hrow := kT _ _ (hR.2 j r hr)
      walk_at "rd"
      refine ⟨_, .inl (SqL.of hrow), mul12 b0 (by omega) (by omega) (by rw [List.length_map]; omega), r, _, x, rfl, hrow, hin, _, rfl, ⟨?_, _, rfl⟩, kT⟩
      rw [List.length_map, List.take_add_one, List.take_add_one, rowsO_get (by omega), hxs, List.reverse_append, List.reverse_append]
      rfl
    · rintro σ' H' ⟨⟨t4, t5, rfl⟩, e⟩
      rw [List.length_map, List.length_map, Nat.min_eq_left (by omega), List.take_of_length_le (by rw [rowsO_len]; omega), List.take_of_length_le (by omega)]
      walk_at "rd"
      exact q _ (e1.trans e)
theorem ok_place_in {f : Addr} {fd : FuncData} (F : d_place_in.Is K f fd) (T : Txt K mg) :
    FnOk P w K mg base CX0 1 f fd ["row", "owner"] (sp_place_in K) := by
  refine F.ok sc_place_in (fun vs H Q E h => ?_) (fun cdv A outer s H vs Q E hr h => ?_)
  · obtain ⟨r, o, x, rfl, hr, hx, q⟩ := h
    rfl
  · obtain ⟨r, o, x, rfl, hr, hx, q⟩ := h
    refine ⟨_, PSs.nox (pss_cons (ps_if (pt_cmpR op_notIn_seq (pv 1) (pv 0) (by rfl))
          (pss_one ps_never)
          pss_nil)
        (pss_one (ps_ret (pe_bm PySem.F.plainAttrs_list PySem.F.slot_list_index PySem.F.type_list_index mt_index (pv 0) (pa_cons (pv 1) pa_nil))))), ?_⟩
    walk_at "rd"
    refine ⟨_, _, rfl, .inl (SqL.of hr), rfl, NbF.flat_strs _, ?_⟩
    rw [if_pos rfl, inV_strs, decide_eq_true hx]
    refine ⟨_, rfl, ifN (by decide) ⟨.inl ⟨rfl, _, SqL.of hr⟩, r, _, .str x, o.idxOf x, .str x, rfl, rfl, SqL.of hr, rfl, NbF.flat_strs _, by rw [List.getElem?_map, at_idx hx]; rfl, by simp [eqV], fun m z' hm hz => ?_, q⟩⟩
    rw [List.getElem?_map] at hz
    obtain ⟨y, hy, rfl⟩ := Option.map_eq_some_iff.mp hz
    have := idx_min hm hy
    simpa [eqV] using this
theorem ok_Log_init {f : Addr} {fd : FuncData} (F : d_Log_init.Is K f fd) (T : Txt K mg)
    (c_check_size : C8.Cal P w K mg base 3 "check_size" (sp_check_size K) [])
    (c_check_servers : C8.Cal P w K mg base 3 "check_servers" (sp_check_servers K) [])
    (c_check_entries : C8.Cal P w K mg base 4 "check_entries" (sp_check_entries K) []) :
    FnOk P w K mg base CX0 5 f fd ["self", "size", "servers", "entries"] (sp_Log_init K) := by
  refine F.ok sc_Log_init (fun vs H Q E h => ?_) (fun cdv A outer s H vs Q E hr h => ?_)
  · obtain ⟨p, dx, b, z, c, s', ns, es, rfl, hp, hw, hc, hs, q⟩ := h
    rfl
  · obtain ⟨p, dx, b, z, c, s', ns, es, rfl, hp, hw, hc, hs, q⟩ := h
    refine ⟨_, PSs.nox (pss_cons (ps_expr (C8.pe_c c_check_size hr (by decide) (by rfl) (pa_cons (pv 1) pa_nil)))
        (pss_cons (ps_expr (C8.pe_c c_check_servers hr (by decide) (by rfl) (pa_cons (pv 2) pa_nil)))
        (pss_cons (ps_expr (C8.pe_c c_check_entries hr (by decide) (by rfl) (pa_cons (pv 2) (pa_cons (pv 3) pa_nil))))
        (pss_cons (ps_fld (pv 0) (pv 1) rfl)
        (pss_cons (ps_fld (pv 0) (pe_callTy call_list_of (by rfl) T.n_list (by decide +kernel) (pa_cons (pv 2) pa_nil)) rfl)
        (pss_one (ps_fld (pv 0) (pe_callTy call_list_of (by rfl) T.n_list (by decide +kernel) (pa_cons (pv 3) pa_nil)) rfl))))))), ?_⟩
    walk_at "rd"
    refine ⟨z, rfl, hw.sz, c, ns, rfl, hc, hw.cr, fun H1 e1 => ⟨c, s', ns, es, rfl, hc.same e1, hs.same e1, hw.en, fun H2 e2 => ?_⟩⟩
    have e := e1.trans e2
    have hp2 := e _ _ hp
    have hc2 := hc.same e
    obtain ⟨ts, hs2, he2⟩ := hs.same e
    have npc : c ≠ p := ne_of hc2 hp2 (by simp)
    have nps : s' ≠ p := ne_of hs2 hp2 (by simp)
    refine ⟨_, dx, _, hp2, T.lf.cl b, T.lf.nS b, (by decide), _, .inl (SqL.of (upd_keep hc2 npc)), fun l hl => ?_⟩
    have npl : p ≠ l := ne_of_none upd_same hl
    refine ⟨_, dx, _, upd_keep upd_same npl, T.lf.cl b, T.lf.nV b, (by show 1 < 1000; decide), _, .inl (SqL.of (upd_keep (upd_keep (upd_keep hs2 nps) (ne_of_none (upd_keep hs2 nps) hl)) nps)), fun m hm => ?_⟩
    have npm : p ≠ m := ne_of_none upd_same hm
    have nlm : l ≠ m := ne_of_none (upd_keep upd_same npl.symm) hm
    refine ⟨_, dx, _, upd_keep upd_same npm, T.lf.cl b, T.lf.nE b, (by show _ < 1000; simp only [putF]; split <;> simp), ?_⟩
    have keep : ∀ a o, a ≠ p → H a = some o → upd (upd (upd (upd (upd H2 p (.ins (C2 K b) dx (putF "_size" (.int z) []))) l (.lst (ns.map V.str))) p (.ins (C2 K b) dx (putF "_servers" (.ref l) (putF "_size" (.int z) [])))) m (.lst (ts.map V.ref))) p (.ins (C2 K b) dx (putF "_entries" (.ref m) (putF "_servers" (.ref l) (putF "_size" (.int z) [])))) a = some o := by
      intro a o na ha
      have h1 := upd_keep (o := .ins (C2 K b) dx (putF "_size" (.int z) [])) (e _ _ ha) na
      have h2 := upd_keep (o := .lst (ns.map V.str)) h1 (ne_of_none h1 hl)
      have h3 := upd_keep (o := .ins (C2 K b) dx (putF "_servers" (.ref l) (putF "_size" (.int z) []))) h2 na
      exact upd_keep (upd_keep h3 (ne_of_none h3 hm)) na
    refine q _ l m keep ⟨dx, by rw [upd_same, fsL_put], ?_, ⟨ts, ?_, ?_⟩, hw⟩ (e.free (by rw [upd_ne npl.symm] at hl; exact hl)) (e.free (by rw [upd_ne npm.symm, upd_ne nlm.symm, upd_ne npm.symm] at hm; exact hm))
    · exact upd_keep (upd_keep (upd_keep upd_same npl.symm) nlm) npl.symm
    · exact upd_keep upd_same npm.symm
    · refine he2.imp fun t xs ht => ?_
      have nt : t ≠ p := ne_of ht hp2 (by simp)
      have h1 := upd_keep (o := .ins (C2 K b) dx (putF "_size" (.int z) [])) ht nt
      have h2 := upd_keep (o := .lst (ns.map V.str)) h1 (ne_of_none h1 hl)
      have h3 := upd_keep (o := .ins (C2 K b) dx (putF "_servers" (.ref l) (putF "_size" (.int z) []))) h2 nt
      exact upd_keep (upd_keep h3 (ne_of_none h3 hm)) nt
theorem ok_Log_size {f : Addr} {fd : FuncData} (F : d_Log_size.Is K f fd) (T : Txt K mg) :
    FnOk P w K mg base CX0 1 f fd ["self"] (sp_Log_size K) := by
  refine F.ok sc_Log_size (fun vs H Q E h => ?_) (fun cdv A outer s H vs Q E hr h => ?_)
  · obtain ⟨p, b, z, ns, es, rfl, ⟨dx, ls, le, hp, hls, hle, hw⟩, q⟩ := h
    rfl
  · obtain ⟨p, b, z, ns, es, rfl, ⟨dx, ls, le, hp, hls, hle, hw⟩, q⟩ := h
    refine ⟨_, PSs.nox (pss_one (ps_ret (pe_fld (pv 0) rfl))), ?_⟩
    walk_at "rd"
    exact ⟨_, _, _, hp, T.lf.cl b, T.lf.nS b, _, fsL_size _ _ _, q⟩
theorem ok_Log_servers {f : Addr} {fd : FuncData} (F : d_Log_servers.Is K f fd) (T : Txt K mg) :
    FnOk P w K mg base CX0 1 f fd ["self"] (sp_Log_servers K) := by
  refine F.ok sc_Log_servers (fun vs H Q E h => ?_) (fun cdv A outer s H vs Q E hr h => ?_)
  · obtain ⟨p, b, z, ns, es, rfl, ⟨dx, ls, le, hp, hls, hle, hw⟩, q⟩ := h
    rfl
  · obtain ⟨p, b, z, ns, es, rfl, ⟨dx, ls, le, hp, hls, hle, hw⟩, q⟩ := h
    refine ⟨_, PSs.nox (pss_one (ps_ret (pe_callTy call_list_of (by rfl) T.n_list (by decide +kernel) (pa_cons (pe_fld (pv 0) rfl) pa_nil)))), ?_⟩
    walk_at "rd"
    exact ⟨_, _, _, hp, T.lf.cl b, T.lf.nV b, _, fsL_servers _ _ _, _, rfl, _, .inl (CrewAt.sq hls), fun l hl => q l _ hl (Same.new (Same.refl _) hl) upd_same⟩
theorem ok_Log_entries {f : Addr} {fd : FuncData} (F : d_Log_entries.Is K f fd) (T : Txt K mg) :
    FnOk P w K mg base CX0 1 f fd ["self"] (sp_Log_entries K) := by
  refine F.ok sc_Log_entries (fun vs H Q E h => ?_) (fun cdv A outer s H vs Q E hr h => ?_)
  · obtain ⟨p, b, z, ns, es, rfl, ⟨dx, ls, le, hp, hls, ⟨ts, hle, hes⟩, hw⟩, q⟩ := h
    rfl
  · obtain ⟨p, b, z, ns, es, rfl, ⟨dx, ls, le, hp, hls, ⟨ts, hle, hes⟩, hw⟩, q⟩ := h
    refine ⟨_, PSs.nox (pss_one (ps_ret (pe_callTy call_list_of (by rfl) T.n_list (by decide +kernel) (pa_cons (pe_fld (pv 0) rfl) pa_nil)))), ?_⟩
    walk_at "rd"
    refine ⟨_, _, _, hp, T.lf.cl b, T.lf.nE b, _, fsL_entries _ _ _, _, rfl, _, .inl (SqL.of hle), fun l hl => ?_⟩
    have e : Same H (upd H l (.lst (ts.map V.ref))) := Same.new (Same.refl _) hl
    exact q l _ hl e ⟨ts, upd_same, hes.imp fun t xs h => e _ _ h⟩
theorem ok_Log_len {f : Addr} {fd : FuncData} (F : d_Log_len.Is K f fd) (T : Txt K mg) :
    FnOk P w K mg base CX0 1 f fd ["self"] (sp_Log_len K) := by
  refine F.ok sc_Log_len (fun vs H Q E h => ?_) (fun cdv A outer s H vs Q E hr h => ?_)
  · obtain ⟨p, b, z, ns, es, rfl, ⟨dx, ls, le, hp, hls, ⟨ts, hle, hes⟩, hw⟩, q⟩ := h
    rfl
  · obtain ⟨p, b, z, ns, es, rfl, ⟨dx, ls, le, hp, hls, ⟨ts, hle, hes⟩, hw⟩, q⟩ := h
    refine ⟨_, PSs.nox (pss_one (ps_ret (pe_callB call_len_seq (by rfl) T.n_len (by decide +kernel) (pa_cons (pe_fld (pv 0) rfl) pa_nil)))), ?_⟩
    walk_at "rd"
    refine ⟨_, _, _, hp, T.lf.cl b, T.lf.nE b, _, fsL_entries _ _ _, _, rfl, _, .inl (SqL.of hle), ?_⟩
    rw [List.length_map, hes.len]
    exact q
theorem ok_Log_add {f : Addr} {fd : FuncData} (F : d_Log_add.Is K f fd) (T : Txt K mg)
    (c_Log_is_alike : C8.CalAt P w K mg base 1 (d_Log_is_alike.way K) (sp_Log_is_alike K))
    (c_new_log : C8.Cal P w K mg base 7 "new_log" (sp_new_log K) []) :
    FnOk P w K mg base CX0 8 f fd ["self", "other"] (sp_Log_add K) := by
  refine F.ok sc_Log_add (fun vs H Q E h => ?_) (fun cdv A outer s H vs Q E hr h => ?_)
  · obtain ⟨p, b, z, ns, es, p', es', rfl, hp, hp', hl, q⟩ := h
    rfl
  · obtain ⟨p, b, z, ns, es, p', es', rfl, hp, hp', hl, q⟩ := h
    refine ⟨_, PSs.nox (pss_cons (ps_if (pt_not (pt_val (pe_mt2 T.m_Log_is_alike c_Log_is_alike hr (by decide) (pv 0) (pa_cons (pv 1) pa_nil))))
          (pss_one ps_never)
          pss_nil)
        (pss_cons (ps_set (i := 2) sc_Log_add.nd rfl (Or.inl rfl) (pe_op op_cat (pe_fld (pv 0) rfl) (pe_fld (pv 1) rfl)))
        (pss_cons (ps_if (pt_cmpR op_gt (pe_callB call_len_seq (by rfl) T.n_len (by decide +kernel) (pa_cons (pv 2) pa_nil)) (C8.pe_gc (by rfl) T.g_MOST_ENTRIES) (nomark _))
          (pss_one ps_never)
          pss_nil)
        (pss_one (ps_ret (C8.pe_c c_new_log hr (by decide) (by rfl) (pa_cons (pe_con (pv 0) rfl) (pa_cons (pe_fld (pv 0) rfl) (pa_cons (pe_fld (pv 0) rfl) (pa_cons (pv 2) pa_nil)))))))))), ?_⟩
    walk_at "rd"
    obtain ⟨dx, ls, le, hp1, hls, ⟨ts, hle, hes⟩, hw⟩ := id hp
    obtain ⟨dx', ls', le', hp1', hls', ⟨ts', hle', hes'⟩, hw'⟩ := id hp'
    obtain ⟨u, hu⟩ := T.lf.con b
    have n1 := hes.len
    have n2 := hes'.len
    refine ⟨b, dx, _, hp1, fsL_no (by decide +kernel) (by decide +kernel) (by decide +kernel) _ _ _, p, b, z, ns, es, .ref p', _, rfl, hp, hp'.knd, .inr ⟨p', b, z, ns, es', rfl, hp', _, rfl, ifN (by rw [decide_eq_true ⟨rfl, rfl, rfl⟩]; decide) ?_⟩⟩
    refine ⟨_, _, _, hp1, T.lf.cl b, T.lf.nE b, _, fsL_entries _ _ _, _, _, _, hp1', T.lf.cl b, T.lf.nE b, _, fsL_entries _ _ _, le, le', _, _, rfl, rfl, hle, hle', sz_le (by rw [List.length_map, List.length_map]; omega), fun l hll => ⟨l, rfl, _, .inl (SqL.of upd_same), ifN (by simp; omega) ?_⟩⟩
    have s1 := Same.new (o := .lst (ts.map V.ref ++ ts'.map V.ref)) (Same.refl H) hll
    refine ⟨_, _, _, s1 _ _ hp1, T.lf.cl b, _, _, hu, fsL_no (by decide +kernel) (by decide +kernel) (by decide +kernel) _ _ _, _, _, _, s1 _ _ hp1, T.lf.cl b, T.lf.nS b, _, fsL_size _ _ _, _, _, _, s1 _ _ hp1, T.lf.cl b, T.lf.nV b, _, fsL_servers _ _ _, b, z, ls, l, ns, es ++ es', rfl, ⟨hw.sz, hw.cr, ⟨by rw [List.length_append]; exact hl, fun e he => ?_⟩⟩, hls.same s1, ⟨ts ++ ts', by rw [upd_same, List.map_append], (Ents.cat hes hes').imp fun t xs h => s1 _ _ h⟩, fun p2 H2 h2 e2 l2 => q p2 H2 (s1.free h2) (s1.trans e2) l2⟩
    rcases List.mem_append.mp he with h | h
    · exact hw.en.ok e h
    · exact hw'.en.ok e h
theorem okx_Log_add {f : Addr} {fd : FuncData} (F : d_Log_add.Is K f fd) (T : Txt K mg)
    (c_Log_is_alike : C8.CalAt P w K mg base 1 (d_Log_is_alike.way K) (sp_Log_is_alike K))
    (c_new_log : C8.Cal P w K mg base 7 "new_log" (sp_new_log K) []) :
    FnOk P w K mg base (L2.CX P w) 8 f fd ["self", "other"] (spx_Log_add K) := by
  refine F.ok sc_Log_add (fun vs H Q E h => ?_) (fun cdv A outer s H vs Q E hr h => ?_)
  · obtain ⟨p, b, z, ns, es, p', es', rfl, hp, hp', hl, q⟩ := h
    rfl
  · obtain ⟨p, b, z, ns, es, p', es', rfl, hp, hp', hl, q⟩ := h
    refine ⟨_, (pss_cons (ps_if (pt_not (pt_val (pe_mt2 T.m_Log_is_alike c_Log_is_alike hr (by decide) (pv 0) (pa_cons (pv 1) pa_nil))))
          (pss_one (ps_raise rfl (takes_of rfl rfl rfl rfl) (pmk_own PySem.F.excBase_ValueError T.x_InvalidLog.ex T.x_InvalidLog.gl T.x_InvalidLog.kp (raises_own T.x_InvalidLog.sb T.x_InvalidLog.ty) (by rfl))))
          pss_nil)
        (pss_cons (ps_set (i := 2) sc_Log_add.nd rfl (Or.inl rfl) (pe_op op_cat (pe_fld (pv 0) rfl) (pe_fld (pv 1) rfl)))
        (pss_cons (ps_if (pt_cmpR op_gt (pe_callB call_len_seq (by rfl) T.n_len (by decide +kernel) (pa_cons (pv 2) pa_nil)) (C8.pe_gc (by rfl) T.g_MOST_ENTRIES) (nomark _))
          (pss_one (ps_raise rfl (takes_of rfl rfl rfl rfl) (pmk_own PySem.F.excBase_ValueError T.x_InvalidLog.ex T.x_InvalidLog.gl T.x_InvalidLog.kp (raises_own T.x_InvalidLog.sb T.x_InvalidLog.ty) (by rfl))))
          pss_nil)
        (pss_one (ps_ret (C8.pe_c c_new_log hr (by decide) (by rfl) (pa_cons (pe_con (pv 0) rfl) (pa_cons (pe_fld (pv 0) rfl) (pa_cons (pe_fld (pv 0) rfl) (pa_cons (pv 2) pa_nil)))))))))), ?_⟩
    walk_at "rd"
    obtain ⟨dx, ls, le, hp1, hls, ⟨ts, hle, hes⟩, hw⟩ := id hp
    obtain ⟨dx', ls', le', hp1', hls', ⟨ts', hle', hes'⟩, hw'⟩ := id hp'
    have n1 := hes.len
    have n2 := hes'.len
    have h1 := hw.en.few
    have h2 := hw'.en.few
    refine ⟨b, dx, _, hp1, fsL_no (by decide +kernel) (by decide +kernel) (by decide +kernel) _ _ _, p, b, z, ns, es, .ref p', _, rfl, hp, hp'.knd, .inr ⟨p', b, z, ns, es', rfl, hp', _, rfl, ifN (by rw [decide_eq_true ⟨rfl, rfl, rfl⟩]; decide) ?_⟩⟩
    exact ⟨_, _, _, hp1, T.lf.cl b, T.lf.nE b, _, fsL_entries _ _ _, _, _, _, hp1', T.lf.cl b, T.lf.nE b, _, fsL_entries _ _ _, le, le', _, _, rfl, rfl, hle, hle', sz_le (by rw [List.length_map, List.length_map]; omega), fun l hll => ⟨l, rfl, _, .inl (SqL.of upd_same), ifP (by simp; omega) (q _ (Same.new (Same.refl H) hll))⟩⟩
theorem ok_Log_eq {f : Addr} {fd : FuncData} (F : d_Log_eq.Is K f fd) (T : Txt K mg)
    (c_Log_is_alike : C8.CalAt P w K mg base 1 (d_Log_is_alike.way K) (sp_Log_is_alike K)) :
    FnOk P w K mg base CX0 3 f fd ["self", "other"] (sp_Log_eq K) := by
  refine F.ok sc_Log_eq (fun vs H Q E h => ?_) (fun cdv A outer s H vs Q E hr h => ?_)
  · obtain ⟨p, b, z, ns, es, y, d, rfl, hp, k, q⟩ := h
    rfl
  · obtain ⟨p, b, z, ns, es, y, d, rfl, hp, k, q⟩ := h
    refine ⟨_, PSs.nox (pss_one (ps_ret (pe_and (pe_mt2 T.m_Log_is_alike c_Log_is_alike hr (by decide) (pv 0) (pa_cons (pv 1) pa_nil)) (pe_one (pe_cmpR (op_eqD hr.units) (pe_fld (pv 0) rfl) (pe_fld (pv 1) rfl) (nomark _)))))), ?_⟩
    walk_at "rd"
    obtain ⟨dx, ls, le, hp1, hls, hle, hw⟩ := id hp
    refine ⟨_, _, _, hp1, fsL_no (by decide +kernel) (by decide +kernel) (by decide +kernel) _ _ _, p, b, z, ns, es, y, d, rfl, hp, k, ?_⟩
    rcases q with ⟨n1, n2, q⟩ | ⟨p', b', z', ns', es', rfl, hq', q⟩
    · exact .inl ⟨n1, n2, _, rfl, iteF q⟩
    · refine .inr ⟨p', b', z', ns', es', rfl, hq', _, rfl, ite2 (fun h => ?_) (fun h => ?_)⟩
      · obtain ⟨dx', ls', le', hp', hls', hle', hw'⟩ := hq'
        obtain ⟨e1, e2, e3⟩ := of_decide_eq_true h
        refine ⟨_, _, _, hp1, T.lf.cl b, T.lf.nE b, _, fsL_entries _ _ _, p', rfl, _, _, _, hp', T.lf.cl b', T.lf.nE b', _, fsL_entries _ _ _, _, _, hle.dp, hle'.dp, shaped_ens hw.cr hw.en, shaped_ens hw'.cr hw'.en, ?_⟩
        show Q (.bl (PyData.eqvAll (es.map enD) (es'.map enD))) H
        rw [eqv_ens]
        simpa [e1, e2, e3] using q
      · rw [decide_eq_false (fun e => h (decide_eq_true ⟨e.1, e.2.1, e.2.2.1⟩))] at q
        exact q
theorem ok_Log_contains {f : Addr} {fd : FuncData} (F : d_Log_contains.Is K f fd) (T : Txt K mg)
    (c_is_entry : C8.Cal P w K mg base 3 "is_entry" (sp_is_entry K) []) :
    FnOk P w K mg base CX0 4 f fd ["self", "thing"] (sp_Log_contains K) := by
  refine F.ok sc_Log_contains (fun vs H Q E h => ?_) (fun cdv A outer s H vs Q E hr h => ?_)
  · obtain ⟨p, b, z, ns, es, x, rfl, hp, h⟩ := h
    rfl
  · obtain ⟨p, b, z, ns, es, x, rfl, hp, h⟩ := h
    refine ⟨_, PSs.nox (pss_one (ps_ret (pe_and (C8.pe_c c_is_entry hr (by decide) (by rfl) (pa_cons (pe_fld (pv 0) rfl) (pa_cons (pv 1) pa_nil))) (pe_one (pe_cmpR (op_inD (room65 hr)) (pv 1) (pe_fld (pv 0) rfl) (by rfl)))))), ?_⟩
    walk_at "rd"
    obtain ⟨dx, ls, le, hp1, hls, hle, hw⟩ := id hp
    refine ⟨_, _, _, hp1, T.lf.cl b, T.lf.nV b, _, fsL_servers _ _ _, ls, ns, x, rfl, hls, ?_⟩
    rcases h with ⟨h, q⟩ | ⟨t, e, rfl, ht, q⟩
    · exact .inl ⟨h, _, rfl, iteF q⟩
    · refine .inr ⟨t, e, rfl, ht, _, rfl, ite2 (fun he => ?_) (fun he => ?_)⟩
      · exact ⟨_, _, _, hp1, T.lf.cl b, T.lf.nE b, _, fsL_entries _ _ _, in_ents ht hle hw.cr he hw.en q⟩
      · rw [decide_eq_false (fun g => he (hw.en.ok e g))] at q
        exact q
theorem ok_Log_front {f : Addr} {fd : FuncData} (F : d_Log_front.Is K f fd) (T : Txt K mg)
    (c_check_count : C8.Cal P w K mg base 3 "check_count" (sp_check_count K) [])
    (c_new_log : C8.Cal P w K mg base 7 "new_log" (sp_new_log K) []) :
    FnOk P w K mg base CX0 8 f fd ["self", "count"] (sp_Log_front K) := by
  refine F.ok sc_Log_front (fun vs H Q E h => ?_) (fun cdv A outer s H vs Q E hr h => ?_)
  · obtain ⟨p, b, z, ns, es, n, rfl, hp, hn, q⟩ := h
    rfl
  · obtain ⟨p, b, z, ns, es, n, rfl, hp, hn, q⟩ := h
    refine ⟨_, PSs.nox (pss_cons (ps_expr (C8.pe_c c_check_count hr (by decide) (by rfl) (pa_cons (pv 1) (pa_cons (pe_callB call_len_seq (by rfl) T.n_len (by decide +kernel) (pa_cons (pe_fld (pv 0) rfl) pa_nil)) pa_nil))))
        (pss_one (ps_ret (C8.pe_c c_new_log hr (by decide) (by rfl) (pa_cons (pe_con (pv 0) rfl) (pa_cons (pe_fld (pv 0) rfl) (pa_cons (pe_fld (pv 0) rfl) (pa_cons (pe_slice sl_list (pe_fld (pv 0) rfl) po_none (po_some (pv 1))) pa_nil)))))))), ?_⟩
    walk_at "rd"
    obtain ⟨dx, ls, le, hp1, hls, ⟨ts, hle, hes⟩, hw⟩ := hp
    obtain ⟨u, hu⟩ := T.lf.con b
    refine ⟨_, _, _, hp1, T.lf.cl b, T.lf.nE b, _, fsL_entries _ _ _, _, rfl, _, .inl (SqL.of hle), _, _, rfl, by omega, by rw [List.length_map, hes.len]; omega, ?_⟩
    refine ⟨_, _, _, hp1, T.lf.cl b, _, _, hu, fsL_no (by decide +kernel) (by decide +kernel) (by decide +kernel) _ _ _, _, _, _, hp1, T.lf.cl b, T.lf.nS b, _, fsL_size _ _ _, _, _, _, hp1, T.lf.cl b, T.lf.nV b, _, fsL_servers _ _ _, _, _, _, hp1, T.lf.cl b, T.lf.nE b, _, fsL_entries _ _ _, ?_⟩
    refine ⟨_, _, rfl, SqL.of hle, fun l hl => ?_⟩
    have e : Same H (upd H l (.lst (cutV (ts.map V.ref) none (some (n : Int))))) := Same.new (Same.refl _) hl
    refine ⟨b, z, ls, l, ns, es.take n, rfl, ⟨hw.sz, hw.cr, ⟨by rw [List.length_take]; have := hw.en.few; omega, fun e he => hw.en.ok e (List.mem_of_mem_take he)⟩⟩, hls.same e, ⟨ts.take n, ?_, (hes.take n).imp fun t xs h => e _ _ h⟩, fun p' H' hp' e' hl' => q p' H' (e.free hp') (e.trans e') hl'⟩
    rw [upd_same, cut_to (by rw [List.length_map, hes.len]; exact hn), List.map_take]
theorem ok_Log_last_block {f : Addr} {fd : FuncData} (F : d_Log_last_block.Is K f fd) (T : Txt K mg) :
    FnOk P w K mg base CX0 1 f fd ["self"] (sp_Log_last_block K) := by
  refine F.ok sc_Log_last_block (fun vs H Q E h => ?_) (fun cdv A outer s H vs Q E hr h => ?_)
  · obtain ⟨p, b, z, ns, es, rfl, hp, q⟩ := h
    rfl
  · obtain ⟨p, b, z, ns, es, rfl, hp, q⟩ := h
    refine ⟨_, PSs.nox (pss_one (ps_ret (pe_callBK (cr_maxDf rfl (room1 hr)) (by rfl) T.n_max (by decide +kernel) (pa_cons (pe_lc (own := [("_", 1), ("number", 2)]) (g := gTup K 2 (gCons (gName 1) (gCons (gName 2) gNil))) (tt := tYes) (by rfl) sc_Log_last_block.nd (pi_list (pe_fld (pv 0) rfl)) (blkOk_by (N := ["self", "_", "number"]) (sc := defScope s_Log_last_block) (by decide +kernel)) (fun _ _ _ _ _ => (pg_tupK (K := K) rfl (by rfl) (pgs_cons (pg_name (i := 1) sc_Log_last_block.nd rfl (Or.inl rfl)) (pgs_cons (pg_name (i := 2) sc_Log_last_block.nd rfl (Or.inl rfl)) pgs_nil)))) (fun _ _ _ _ _ => pts_nil) (fun _ _ _ _ _ => (pe_op op_fdivW (pv 2) (pe_fldK (K := K) rfl (pv 0) rfl)))) pa_nil) (pk_cons (pe_un un_neg pe_int) pk_nil)))), ?_⟩
    walk_at "rd"
    obtain ⟨dx, ls, le, hp1, hls, ⟨ts, hle, he⟩, hw⟩ := id hp
    refine ⟨_, _, _, hp1, T.lf.cl b, T.lf.nE b, _, fsL_entries _ _ _, _, rfl, ⟨_, SqL.of hle⟩, fun L hL => comp_list (ts.map V.ref) (fun i H' => Same H H' ∧ H' L = some (.lst ((es.take i).map fun e => V.int (e.2 / z)))) ⟨Same.new (Same.refl _) hL, upd_same⟩ (fun i H' _ k => SqL.of (k.1 _ _ hle)) ?_ ?_⟩
    · rintro i x H' hi ⟨e, h1⟩
      rw [List.getElem?_map] at hi
      obtain ⟨t, ht, rfl⟩ := Option.map_eq_some_iff.mp hi
      obtain ⟨en, g1, g2⟩ := he.get ht
      walk_at "rd"
      have hlt := (List.getElem?_eq_some_iff.mp ht).1
      have hln := he.len
      have h30 := hw.en.few
      refine ⟨_, SqT.of (e _ _ g2), rfl, _, _, rfl, _, _, rfl, rfl, _, _, _, e _ _ hp1, T.lf.cl b, T.lf.nS b, _, fsL_size _ _ _, _, rfl, _, rfl, div_ok (by have := hw.sz.1; omega) (Int.le_trans hw.sz.2 (by decide +kernel)), _, h1, sz_lt (by rw [List.length_map, List.length_take]; omega), Nb.Same.mut e hL, ?_⟩
      rw [upd_same, List.take_add_one, g1, List.map_append]
      rfl
    · rintro H' ⟨e, h1⟩
      rw [List.length_map, he.len, List.take_length] at h1
      exact ⟨L, es.map fun (e : En) => e.2 / z, _, rfl, rfl, SqL.of (by rw [h1, List.map_map]; rfl), q H' e⟩
theorem ok_Log_is_alike {f : Addr} {fd : FuncData} (F : d_Log_is_alike.Is K f fd) (T : Txt K mg) :
    FnOk P w K mg base CX0 1 f fd ["self", "other"] (sp_Log_is_alike K) := by
  refine F.ok sc_Log_is_alike (fun vs H Q E h => ?_) (fun cdv A outer s H vs Q E hr h => ?_)
  · obtain ⟨p, b, z, ns, es, y, d, rfl, ⟨dx, ls, le, hp, hls, hle, hw⟩, k, q⟩ := h
    rfl
  · obtain ⟨p, b, z, ns, es, y, d, rfl, ⟨dx, ls, le, hp, hls, hle, hw⟩, k, q⟩ := h
    refine ⟨_, PSs.nox (pss_cons (ps_if (PW.pt (pw_or (pt_not (pt_val (pe_callB call_isi (by rfl) T.n_isinstance (by decide +kernel) (pa_cons (pv 1) (pa_cons (C8.pe_gc (by rfl) T.g_Log) pa_nil))))) (pw_or1 (pt_cmpR op_ne (pe_con (pv 0) rfl) (pe_con (pv 1) rfl) (nomark _)))))
          (pss_one (ps_ret pe_bl))
          pss_nil)
        (pss_one (ps_ret (pe_and (pe_cmpR op_eq (pe_fld (pv 0) rfl) (pe_fld (pv 1) rfl) (nomark _)) (pe_one (pe_cmpR (op_eqD hr.units) (pe_fld (pv 0) rfl) (pe_fld (pv 1) rfl) (nomark _))))))), ?_⟩
    walk_at "rd"
    refine isi_l (b := false) T.lf k ⟨_, rfl, ?_⟩
    rcases q with ⟨n1, n2, q⟩ | ⟨p', b', z', ns', es', rfl, hq', q⟩
    · refine ifP ?_ q
      cases d with
      | log c => cases c <;> first | exact absurd rfl n1 | exact absurd rfl n2
      | _ => rfl
    · cases hq'.kd T.lf k
      obtain ⟨dx', ls', le', hp', hls', hle', hw'⟩ := hq'
      obtain ⟨u, hu⟩ := T.lf.con b
      obtain ⟨u', hu'⟩ := T.lf.con b'
      refine ifN (by simp [isLogOf]) ⟨_, _, _, hp, T.lf.cl b, _, _, hu, fsL_no (by decide +kernel) (by decide +kernel) (by decide +kernel) _ _ _, p', rfl, _, _, _, hp', T.lf.cl b', _, _, hu', fsL_no (by decide +kernel) (by decide +kernel) (by decide +kernel) _ _ _, rfl, _, rfl, ?_⟩
      refine ite2 (fun h => ?_) (fun h => ?_)
      · have nb : b ≠ b' := by
          rintro rfl
          simp at h
        rw [decide_eq_false (fun e => nb e.1)] at q
        exact q
      · have hb : b = b' := by
          refine kindS_inj ?_
          simp at h
          exact h
        subst hb
        refine ⟨_, _, _, hp, T.lf.cl b, T.lf.nS b, _, fsL_size _ _ _, p', rfl, _, _, _, hp', T.lf.cl b, T.lf.nS b, _, fsL_size _ _ _, rfl, _, rfl, ite2 (fun hz => ?_) (fun hz => ?_)⟩
        · have ez : z = z' := V.int.inj (of_decide_eq_true hz)
          refine ⟨_, _, _, hp, T.lf.cl b, T.lf.nV b, _, fsL_servers _ _ _, p', rfl, _, _, _, hp', T.lf.cl b, T.lf.nV b, _, fsL_servers _ _ _, _, _, hls.dp, hls'.dp, shaped_crew hw.cr, shaped_crew hw'.cr, ?_⟩
          show Q (.bl (PyData.eqvAll (ns.map PyData.str) (ns'.map PyData.str))) H
          rw [eqv_strs]
          simpa [ez] using q
        · have ez : z ≠ z' := fun e => hz (decide_eq_true (by rw [e]))
          rw [decide_eq_false (fun e => ez e.2.1)] at q
          exact q
theorem ok_new_log {f : Addr} {fd : FuncData} (F : d_new_log.Is K f fd) (T : Txt K mg)
    (c_mk_LosingLog : C8.Mak P w K mg base 5 "LosingLog" (He.ga K "LosingLog") (sp_Log_init K) [])
    (c_mk_Log : C8.Mak P w K mg base 5 "Log" (He.ga K "Log") (sp_Log_init K) []) :
    FnOk P w K mg base CX0 7 f fd ["kind", "size", "servers", "entries"] (sp_new_log K) := by
  refine F.ok sc_new_log (fun vs H Q E h => ?_) (fun cdv A outer s H vs Q E hr h => ?_)
  · obtain ⟨b, z, c, s', ns, es, rfl, hw, hc, hs, q⟩ := h
    rfl
  · obtain ⟨b, z, c, s', ns, es, rfl, hw, hc, hs, q⟩ := h
    refine ⟨_, PSs.nox (pss_cons (ps_if (pt_cmpR op_eq (pv 0) (ClX.pe_cval (C8.pe_gc (by rfl) T.g_LosingLog)) (nomark _))
          (pss_one (ps_ret (C8.pe_mk c_mk_LosingLog hr (by decide) (by rfl) (pa_cons (pv 1) (pa_cons (pv 2) (pa_cons (pv 3) pa_nil))))))
          pss_nil)
        (pss_one (ps_ret (C8.pe_mk c_mk_Log hr (by decide) (by rfl) (pa_cons (pv 1) (pa_cons (pv 2) (pa_cons (pv 3) pa_nil))))))), ?_⟩
    walk_at "rd"
    obtain ⟨u, hu⟩ := T.lf.cv true
    refine ⟨_, T.lf.rd true, _, u, hu, by cases b <;> rfl, _, rfl, ?_⟩
    cases b with
    | true => exact ifP (by decide +kernel) (mk_new (b := true) hw hc hs q)
    | false => exact ifN (by decide +kernel) (mk_new (b := false) hw hc hs q)
theorem ok_law_jar {f : Addr} {fd : FuncData} (F : d_law_jar.Is K f fd) (T : Txt K mg) :
    FnOk P w K mg base CX0 1 f fd ["script", "k"] (sp_law_jar K) := by
  refine F.ok sc_law_jar (fun vs H Q E h => ?_) (fun cdv A outer s H vs Q E hr h => ?_)
  · obtain ⟨a, ns, k, rfl, hs, hl, hk, hk1, q⟩ := h
    rfl
  · obtain ⟨a, ns, k, rfl, hs, hl, hk, hk1, q⟩ := h
    refine ⟨_, PSs.nox (pss_cons (ps_set (i := 2) sc_law_jar.nd rfl (Or.inl rfl) (pe_ifExp (pt_cmpR op_lt (pv 1) (pe_callB call_len_seq (by rfl) T.n_len (by decide +kernel) (pa_cons (pv 0) pa_nil)) (nomark _)) (pe_callB call_abs (by rfl) T.n_abs (by decide +kernel) (pa_cons (pe_ix ix_list (pv 0) (pv 1) (fun _ _ => rfl)) pa_nil)) pe_int))
        (pss_one (ps_ret (pe_lst (pa_cons (pe_callB (call_max2 rfl) (by rfl) T.n_max (by decide +kernel) (pa_cons pe_int (pa_cons (pe_op op_sub (pv 2) (pe_op op_pow pe_int pe_int)) pa_nil))) (pa_cons (pe_op op_add (pe_op op_mul (pe_op op_mod (pv 2) (pe_op op_add (pe_op op_pow pe_int pe_int) pe_int)) pe_int) (pv 1)) (pa_cons pe_int pa_nil))))))), ?_⟩
    have bd : ∀ v : Int, 0 ≤ v % (10 ^ Int.toNat 39 + 3) * 64 + k ∧ v % (10 ^ Int.toNat 39 + 3) * 64 + k ≤ 10 ^ 60 := fun v => by
      have b1 := Int.emod_nonneg v (show (10 ^ Int.toNat 39 + 3 : Int) ≠ 0 by decide +kernel)
      have b2 := Int.emod_lt_of_pos v (show (0 : Int) < 10 ^ Int.toNat 39 + 3 by decide +kernel)
      have b3 : (10 ^ Int.toNat 39 + 3 : Int) ≤ 10 ^ 40 := by decide +kernel
      exact ⟨by omega, by omega⟩
    walk_at "rd"
    refine ⟨_, .inl hs, ite2 (fun h => ?_) (fun h => ?_)⟩
    · rw [List.length_map] at h
      obtain ⟨j, rfl⟩ : ∃ j : Nat, k = (j : Int) := ⟨k.toNat, by omega⟩
      have hj : j < ns.length := by omega
      exact ⟨_, hs, .int ns[j], atI_nat (by rw [List.getElem?_map, List.getElem?_eq_getElem hj]; rfl), _, rfl, ⟨by decide, by decide, by decide⟩, _, _, ⟨rfl, rfl⟩, ⟨by decide, by decide, by decide⟩, by decide +kernel, .inr ⟨by decide, by decide⟩, sz_le (by decide), fun p hp => q p _ hp (Same.new (Same.refl _) hp) ⟨_, _, _, upd_same, (bd _).1, (bd _).2, Int.le_refl _, Int.le_refl _⟩⟩
    · exact ⟨⟨by decide, by decide, by decide⟩, _, _, ⟨rfl, rfl⟩, ⟨by decide, by decide, by decide⟩, by decide +kernel, .inr ⟨by decide, by decide⟩, sz_le (by decide), fun p hp => q p _ hp (Same.new (Same.refl _) hp) ⟨_, _, _, upd_same, (bd _).1, (bd _).2, Int.le_refl _, Int.le_refl _⟩⟩
theorem ok_law_tap {f : Addr} {fd : FuncData} (F : d_law_tap.Is K f fd) (T : Txt K mg) :
    FnOk P w K mg base CX0 1 f fd ["jar", "size"] (sp_law_tap K) := by
  refine F.ok sc_law_tap (fun vs H Q E h => ?_) (fun cdv A outer s H vs Q E hr h => ?_)
  · obtain ⟨fa, n, k, rfl, hj, hk, h0, hn, q⟩ := h
    rfl
  · obtain ⟨fa, n, k, rfl, hj, hk, h0, hn, q⟩ := h
    refine ⟨_, PSs.nox (pss_cons (ps_if (pt_cmpR op_gt (pe_ix ix_list (pv 0) pe_int (fun _ _ => rfl)) pe_int (nomark _))
          (pss_cons (ps_set (i := 2) sc_law_tap.nd rfl (Or.inl rfl) (pe_op op_mod (pe_ix ix_list (pv 0) pe_int (fun _ _ => rfl)) (pv 1)))
          (pss_cons (ps_asg (pe_op op_fdivW (pe_ix ix_list (pv 0) pe_int (fun _ _ => rfl)) (pv 1)) (pg_sub (pv 0) pe_int set_list))
          (pss_one (ps_ret (pv 2)))))
          pss_nil)
        (pss_cons (ps_asg (pe_op op_add (pe_ix ix_list (pv 0) pe_int (fun _ _ => rfl)) pe_int) (pg_sub (pv 0) pe_int set_list))
        (pss_cons (ps_set (i := 3) sc_law_tap.nd rfl (Or.inl rfl) (pe_op op_mod (pe_op NbN.op_powW (pe_op op_add (pe_ix ix_list (pv 0) pe_int (fun _ _ => rfl)) (pe_op op_mul pe_int (pe_ix ix_list (pv 0) pe_int (fun _ _ => rfl)))) pe_int) (pe_op op_add (pe_op op_pow pe_int pe_int) pe_int)))
        (pss_cons (ps_set (i := 3) sc_law_tap.nd rfl (Or.inl rfl) (pe_op op_mod (pe_op NbN.op_powW (pe_op op_add (pv 3) (pe_op op_mul pe_int (pe_ix ix_list (pv 0) pe_int (fun _ _ => rfl)))) pe_int) (pe_op op_add (pe_op op_pow pe_int pe_int) pe_int)))
        (pss_one (ps_ret (pe_op op_mod (pe_op op_fdivW (pv 3) pe_int) (pv 1)))))))), ?_⟩
    obtain ⟨x, y, z, hf, y0, y1, z0, z1⟩ := id hj
    have m1 := fun v : Int => Int.emod_nonneg v (show (10 ^ Int.toNat 41 + 37 : Int) ≠ 0 by decide +kernel)
    have m2 := fun v : Int => Int.emod_lt_of_pos v (show (0 : Int) < 10 ^ Int.toNat 41 + 37 by decide +kernel)
    have m3 : (10 ^ Int.toNat 41 + 37 : Int) ≤ 10 ^ 42 := by decide +kernel
    walk_at "rd"
    refine ⟨_, SqL.of hf, _, rfl, _, rfl, ite2 (fun hx => ?_) (fun hx => ?_)⟩
    · exact ⟨_, SqL.of hf, _, rfl, _, rfl, h0, _, SqL.of hf, _, rfl, _, rfl, div_ok h0 hn, _, hf, _, rfl, q _ _ (Int.emod_nonneg _ (by omega)) (Int.emod_lt_of_pos _ h0) (((StJ.refl hj.fd).mono (by decide)).put fun k j => by have := jar_z j hf; omega)⟩
    · refine ⟨_, SqL.of hf, _, rfl, _, rfl, _, hf, _, rfl, _, SqL.of upd_same, _, rfl, _, SqL.of upd_same, _, rfl, _, rfl, .inl ⟨by decide, by decide⟩, _, rfl, powW_ok (by omega) (by omega) (by decide) (by decide), ⟨by decide, by decide, by decide⟩, by decide +kernel, ?_⟩
      have n1 := m1 ((y + 104395303 * (z + 1)) ^ Int.toNat 3)
      have n2 := m2 ((y + 104395303 * (z + 1)) ^ Int.toNat 3)
      refine ⟨_, SqL.of upd_same, _, rfl, _, rfl, .inl ⟨by decide, by decide⟩, powW_ok (by omega) (by omega) (by decide) (by decide), ⟨by decide, by decide, by decide⟩, by decide +kernel, div_c (by decide) (by decide), h0, ?_⟩
      exact q _ _ (Int.emod_nonneg _ (by omega)) (Int.emod_lt_of_pos _ h0) (((StJ.refl hj.fd).mono (by decide)).put fun k j => by have := jar_z j hf; omega)
theorem ok_law_names {f : Addr} {fd : FuncData} (F : d_law_names.Is K f fd) (T : Txt K mg)
    (c_law_tap : C8.Cal P w K mg base 1 "_law_tap" (sp_law_tap K) []) :
    FnOk P w K mg base CX0 2 f fd ["jar", "many"] (sp_law_names K) := by
  refine F.ok sc_law_names (fun vs H Q E h => ?_) (fun cdv A outer s H vs Q E hr h => ?_)
  · obtain ⟨fa, m, k, rfl, hj, hk, m0, m1, q⟩ := h
    rfl
  · obtain ⟨fa, m, k, rfl, hj, hk, m0, m1, q⟩ := h
    refine ⟨_, PSs.nox (pss_cons (ps_set (i := 2) sc_law_names.nd rfl (Or.inl rfl) (pe_lst pa_nil))
        (pss_cons (ps_for PassesOwn.never rfl (pi_range1 (by rfl) T.n_range (pa_cons (pv 1) pa_nil)) (pg_name (i := 3) sc_law_names.nd rfl (Or.inl rfl))
          (pss_cons (ps_set (i := 4) sc_law_names.nd rfl (Or.inl rfl) (pe_ix ix_str pe_str (pe_op op_add (pv 3) (C8.pe_c c_law_tap hr (by decide) (by rfl) (pa_cons (pv 0) (pa_cons pe_int pa_nil)))) (fun _ _ => rfl)))
          (pss_one (ps_expr (pe_bm PySem.F.plainAttrs_list PySem.F.slot_list_append PySem.F.type_list_append mt_append (pv 2) (pa_cons (pe_op op_add_str (pe_op NbN.op_mulS (pv 4) (pe_op op_add pe_int (C8.pe_c c_law_tap hr (by decide) (by rfl) (pa_cons (pv 0) (pa_cons pe_int pa_nil))))) (pe_ix ix_str pe_str (pv 3) (fun _ _ => rfl))) pa_nil))))))
        (pss_one (ps_ret (pv 2))))), ?_⟩
    walk_at "rd"
    refine ⟨Nat.zero_le _, fun p hp => ?_⟩
    have npf := hj.fd.ne hp
    refine ⟨by omega, by omega, loop_rng (fun i σ' H' => (∃ t3 t4 ns, σ' = [some (.ref fa), some (.int m), some (.ref p), t3, t4] ∧ H' p = some (.lst (ns.map V.str)) ∧ ns.length = i ∧ (∀ (j : Nat) n, ns[j]? = some n → ∃ r k : Nat, r < 13 ∧ k < 3 ∧ n = nm j r k)) ∧ StJ fa (2 * i) H H') ⟨⟨_, _, [], rfl, upd_same, rfl, by simp⟩, (StJ.refl hj.fd).new hp⟩ ?_ ?_⟩
    · rintro i σ' H' hi ⟨⟨t3, t4, ns, rfl, g1, g2, g3⟩, e⟩
      have hi12 : i < 12 := by omega
      simp only [gName, List.set_cons_succ, List.set_cons_zero]
      walk_at "rd"
      refine ⟨fa, 13, k + 2 * i, rfl, e.jr k hj, by omega, by decide, by decide +kernel, fun r H1 r0 r1 e1 => ?_⟩
      obtain ⟨r, rfl⟩ : ∃ k : Nat, r = (k : Int) := ⟨r.toNat, by omega⟩
      have e01 := e.trans e1
      refine ⟨_, rfl, _, _, 97 + (i + r), rfl, rfl, by decide +kernel, ?_, ?_⟩
      · rw [show ((i : Int) + (r : Int)) = ((i + r : Nat) : Int) by omega]
        exact atI_nat (alpha_at _ (by omega))
      refine ⟨.inl ⟨rfl, _, SqL.of (e1.kp _ _ npf g1)⟩, fa, 3, k + 2 * i + 1, rfl, e01.jr k hj, by omega, by decide, by decide +kernel, fun r2 H2 r20 r21 e2 => ?_⟩
      obtain ⟨r2, rfl⟩ : ∃ k : Nat, r2 = (k : Int) := ⟨r2.toNat, by omega⟩
      have nl := nm_len i hi12 r (by omega) r2 (by omega)
      refine ⟨_, rfl, _, _, rfl, rfl, by omega, by omega, by show 1 ≤ 1000; decide, _, _, 109 + i, rfl, rfl, by decide +kernel, atI_nat (last_at i hi12), _, rfl, _, rfl, sz_le (by omega), ?_⟩
      refine ⟨p, _, _, rfl, rfl, e2.kp _ _ npf (e1.kp _ _ npf g1), sz_lt (by rw [List.length_map]; omega), ⟨_, _, ⟨rfl, rfl⟩, ns ++ [nm i r r2], by rw [upd_same, List.map_append]; rfl, by rw [List.length_append, g2]; rfl, fun j n hj' => ?_⟩, ((e01.trans e2).mut hp npf).mono (by omega)⟩
      by_cases hji : j < ns.length
      · rw [List.getElem?_append_left hji] at hj'
        obtain ⟨r', k', h1, h2, h3⟩ := g3 j n hj'
        exact ⟨r', h1, k', h2, h3⟩
      · have hjl := (List.getElem?_eq_some_iff.mp hj').1
        rw [List.length_append, List.length_singleton] at hjl
        have hje : j = i := by omega
        subst hje
        rw [List.getElem?_append_right (by omega), show j - ns.length = 0 by omega] at hj'
        exact ⟨r, by omega, r2, by omega, (Option.some.inj hj').symm⟩
    · rintro σ' H' ⟨⟨t3, t4, ns, rfl, g1, g2, g3⟩, e⟩
      walk_at "rd"
      refine q p ns H' hp (e.mono (by omega)) g1 ⟨by omega, ?_, fun n hn => ?_⟩ (by omega) fun n hn => ?_
      · refine List.pairwise_iff_getElem.mpr fun i j hi hjl hij he => ?_
        obtain ⟨r, k', h1, h2, h3⟩ := g3 _ _ (List.getElem?_eq_getElem hjl)
        obtain ⟨r', k'', h4, h5, h6⟩ := g3 _ _ (List.getElem?_eq_getElem hi)
        have := nm_one (by omega) h4 h5 (by omega) h1 h2 ((h6.symm.trans he).trans h3)
        omega
      · obtain ⟨j, hj'⟩ := List.mem_iff_getElem?.mp hn
        have hjl := (List.getElem?_eq_some_iff.mp hj').1
        obtain ⟨r, k', h1, h2, rfl⟩ := g3 _ _ hj'
        exact (nm_ok j (by omega) r h1 k' h2).1
      · obtain ⟨j, hj'⟩ := List.mem_iff_getElem?.mp hn
        have hjl := (List.getElem?_eq_some_iff.mp hj').1
        obtain ⟨r, k', h1, h2, rfl⟩ := g3 _ _ hj'
        exact not_zed (by omega) h1 h2
theorem ok_law_step {f : Addr} {fd : FuncData} (F : d_law_step.Is K f fd) (T : Txt K mg)
    (c_law_tap : C8.Cal P w K mg base 1 "_law_tap" (sp_law_tap K) []) :
    FnOk P w K mg base CX0 2 f fd ["jar", "size_here", "state", "jumps"] (sp_law_step K) := by
  refine F.ok sc_law_step (fun vs H Q E h => ?_) (fun cdv A outer s H vs Q E hr h => ?_)
  · obtain ⟨fa, st, dh, em, nl, z, jm, k, fr, held, ns, i, rfl, hj, hk, hz, j0, j1, S, hi, n1, n2, hh, f0, f1, qA, qB⟩ := h
    rfl
  · obtain ⟨fa, st, dh, em, nl, z, jm, k, fr, held, ns, i, rfl, hj, hk, hz, j0, j1, S, hi, n1, n2, hh, f0, f1, qA, qB⟩ := h
    refine ⟨_, PSs.nox (pss_cons (ps_set (i := 4) sc_law_step.nd rfl (Or.inl rfl) (pe_ix ix_list (pe_ix ix_list (pv 2) pe_int (fun _ _ => rfl)) (C8.pe_c c_law_tap hr (by decide) (by rfl) (pa_cons (pv 0) (pa_cons (pe_callB call_len_seq (by rfl) T.n_len (by decide +kernel) (pa_cons (pe_ix ix_list (pv 2) pe_int (fun _ _ => rfl)) pa_nil)) pa_nil))) (fun _ _ => rfl)))
        (pss_cons (ps_asg (pe_dget2 (room1 hr) (pe_ix ix_list (pv 2) pe_int (fun _ _ => rfl)) (pv 4) (pe_tup (pa_cons (pe_un un_neg pe_int) (pa_cons (pv 1) pa_nil))) ⟨by rfl, by rfl, by rfl, by rfl⟩) (pg_tup (by rfl) (pgs_cons (pg_name (i := 5) sc_law_step.nd rfl (Or.inl rfl)) (pgs_cons (pg_name (i := 6) sc_law_step.nd rfl (Or.inl rfl)) pgs_nil))))
        (pss_cons (ps_if (PW.pt (pw_or (pt_cmpR op_eq (pv 6) (pv 1) (nomark _)) (pw_or1 (pt_cmpR op_eq (C8.pe_c c_law_tap hr (by decide) (by rfl) (pa_cons (pv 0) (pa_cons pe_int pa_nil))) pe_int (nomark _)))))
          (pss_cons (ps_set (i := 7) sc_law_step.nd rfl (Or.inl rfl) (pe_ix ix_list (pe_lst (pa_cons pe_int (pa_cons pe_int (pa_cons pe_int (pa_cons (C8.pe_c c_law_tap hr (by decide) (by rfl) (pa_cons (pv 0) (pa_cons pe_int pa_nil))) (pa_cons (pv 3) (pa_cons (C8.pe_c c_law_tap hr (by decide) (by rfl) (pa_cons (pv 0) (pa_cons (pe_op op_add pe_int (pv 3)) pa_nil))) pa_nil))))))) (C8.pe_c c_law_tap hr (by decide) (by rfl) (pa_cons (pv 0) (pa_cons pe_int pa_nil))) (fun _ _ => rfl)))
          (pss_cons (ps_set (i := 8) sc_law_step.nd rfl (Or.inl rfl) (pe_ix ix_list (pv 2) pe_int (fun _ _ => rfl)))
          (pss_cons (ps_dput (room1 hr) (pv 8) (pv 4) (pe_tup (pa_cons (pe_op op_add (pe_ix ix_list (pv 2) pe_int (fun _ _ => rfl)) (pv 7)) (pa_cons pe_int pa_nil))) rfl)
          (pss_cons (ps_asg (pe_op op_add (pe_op op_add (pe_ix ix_list (pv 2) pe_int (fun _ _ => rfl)) (pv 7)) pe_int) (pg_sub (pv 2) pe_int set_list))
          (pss_one (ps_ret pe_non))))))
          pss_nil)
        (pss_cons (ps_set (i := 9) sc_law_step.nd rfl (Or.inl rfl) (pe_callB (call_min2 rfl) (by rfl) T.n_min (by decide +kernel) (pa_cons (pe_op op_sub (pv 1) (pv 6)) (pa_cons (pe_ix ix_list (pe_lst (pa_cons pe_int (pa_cons pe_int (pa_cons pe_int (pa_cons (pv 1) pa_nil))))) (C8.pe_c c_law_tap hr (by decide) (by rfl) (pa_cons (pv 0) (pa_cons pe_int pa_nil))) (fun _ _ => rfl)) pa_nil))))
        (pss_cons (ps_set (i := 10) sc_law_step.nd rfl (Or.inl rfl) (pe_op op_add (pv 6) (C8.pe_c c_law_tap hr (by decide) (by rfl) (pa_cons (pv 0) (pa_cons (pv 9) pa_nil)))))
        (pss_cons (ps_set (i := 8) sc_law_step.nd rfl (Or.inl rfl) (pe_ix ix_list (pv 2) pe_int (fun _ _ => rfl)))
        (pss_cons (ps_dput (room1 hr) (pv 8) (pv 4) (pe_tup (pa_cons (pv 5) (pa_cons (pe_op op_add (pv 10) pe_int) pa_nil))) rfl)
        (pss_one (ps_ret (pe_tup (pa_cons (pv 4) (pa_cons (pe_op op_add (pe_op op_mulW (pv 5) (pv 1)) (pv 10)) pa_nil)))))))))))), ?_⟩
    have hb : ∀ n : Int, n ≤ 10 ^ 100 → n ≤ 10 ^ 200 := fun n h => Int.le_trans h (by decide +kernel)
    obtain ⟨nst, ndh, nsd⟩ := S.ne hj.fd
    refine cut_seq (fun σ H' => ∃ n, σ = [some (.ref fa), some (.int z), some (.ref st), some (.int jm), some (.str n), none, none, none, none, none, none] ∧ n ∈ ns ∧ JSt H' st dh em nl fr held ns i ∧ StJ fa 1 H H') (fun N hN => ?_) ?_
    · walk_at "rd"
      refine ⟨_, SqL.of S.ls, _, rfl, _, SqL.of S.ls, _, rfl, nl, rfl, _, .inl (CrewAt.sq S.cr), fa, _, k, rfl, hj, by omega, by rw [List.length_map]; omega, hb _ (by rw [List.length_map]; omega), fun r H1 r0 r1 e1 => ?_⟩
      rw [List.length_map] at r1
      obtain ⟨j, rfl⟩ : ∃ k : Nat, r = (k : Int) := ⟨r.toNat, by omega⟩
      have hjn : j < ns.length := by omega
      have S1 := S.stp hj.fd e1.st
      exact ⟨nl, rfl, _, _, rfl, CrewAt.sq S1.cr, .str ns[j], atI_nat (by rw [List.getElem?_map, List.getElem?_eq_getElem hjn]; rfl), hN _ _ ⟨ns[j], rfl, List.getElem_mem hjn, S1, e1⟩⟩
    rintro σ1 H1 ⟨n, rfl, hn, S1, e1⟩
    refine cut_seq (fun σ H' => ∃ o d, σ = [some (.ref fa), some (.int z), some (.ref st), some (.int jm), some (.str n), some (.int o), some (.int d), none, none, none, none] ∧ (held n = some (o, d) ∨ d = z) ∧ JSt H' st dh em nl fr held ns i ∧ StJ fa 1 H H') (fun N hN => ?_) ?_
    · walk_at "rd"
      obtain ⟨kvs, g1, g2, g3⟩ := id S1.hd
      refine ⟨_, SqL.of S1.ls, _, rfl, dh, rfl, .inl ⟨kvs, .inl g1⟩, sz_le (by decide), fun p hp => ⟨valV kvs (.inr n), .k (k := .inr n) (upd_keep g1 (ne_of_none g1 hp)), ?_⟩⟩
      have k1 := Same.new (o := .tup [.int (-1), .int z]) (Same.refl _) hp
      rcases g3 n with ⟨hh, hv⟩ | ⟨t, o, d, hh, hv, ht⟩
      · rw [hv]
        exact ⟨p, rfl, _, SqT.of upd_same, rfl, _, _, rfl, _, _, rfl, rfl, hN _ _ ⟨-1, z, rfl, .inr rfl, S1.same k1, e1.same k1⟩⟩
      · rw [hv]
        exact ⟨t, rfl, _, SqT.of (k1 _ _ ht), rfl, _, _, rfl, _, _, rfl, rfl, hN _ _ ⟨o, d, rfl, .inl hh, S1.same k1, e1.same k1⟩⟩
    rintro σ2 H2 ⟨o, d, rfl, hod, S2, e2⟩
    refine cut_seq (fun σ H' => σ = [some (.ref fa), some (.int z), some (.ref st), some (.int jm), some (.str n), some (.int o), some (.int d), none, none, none, none] ∧ d ≠ z ∧ JSt H' st dh em nl fr held ns i ∧ StJ fa 2 H H') (fun N hN => ?_) ?_
    · refine if_to (R := fun b H' => JSt H' st dh em nl fr held ns i ∧ StJ fa 2 H H' ∧ (b = false → d ≠ z)) (fun QQ hQ => ?_) ?_ ?_
      · walk_at "rd"
        exact ⟨rfl, _, rfl, ite2 (fun _ => hQ _ _ ⟨S2, e2.mono (by decide), fun h => by cases h⟩) (fun hne => ⟨fa, 4, k + 1, rfl, e2.jr k hj, by omega, by decide, by decide +kernel, fun r H3 r0 r1 e3 => ⟨rfl, _, rfl, hQ _ _ ⟨S2.stp e2.fd e3.st, e2.trans e3, fun _ e => hne (by rw [e]; exact decide_eq_true rfl)⟩⟩⟩)⟩
      · rintro H3 ⟨S3, e3, -⟩
        walk_at "rd"
        refine ⟨fa, 3, k + 2, rfl, e3.jr k hj, by omega, by decide, by decide +kernel, fun a' H4 a0 a1 e4 => ⟨fa, 1 + jm, k + 3, rfl, (e3.trans e4).jr k hj, by omega, by omega, Int.le_trans (show 1 + jm ≤ 10 ^ 37 by omega) (by decide +kernel), fun b' H5 b0 b1 e5 => ⟨sz_le (by decide), fun p hp => ?_⟩⟩⟩
        have E5 := (e3.trans e4).trans e5
        have E6 := E5.new (o := .lst [.int 0, .int 0, .int 0, .int a', .int jm, .int b']) hp
        refine ⟨fa, 6, k + 4, rfl, E6.jr k hj, by omega, by decide, by decide +kernel, fun c' H7 c0 c1 e7 => ?_⟩
        have hp7 := e7.kp _ _ (E5.fd.ne hp) upd_same
        obtain ⟨x, hx, x0, x1⟩ : ∃ x : Int, atI [V.int 0, .int 0, .int 0, .int a', .int jm, .int b'] c' = some (.int x) ∧ 0 ≤ x ∧ x ≤ jm + 3 := by
          rcases (by omega : c' = 0 ∨ c' = 1 ∨ c' = 2 ∨ c' = 3 ∨ c' = 4 ∨ c' = 5) with rfl | rfl | rfl | rfl | rfl | rfl
          · exact ⟨0, rfl, by decide, by omega⟩
          · exact ⟨0, rfl, by decide, by omega⟩
          · exact ⟨0, rfl, by decide, by omega⟩
          · exact ⟨a', rfl, a0, by omega⟩
          · exact ⟨jm, rfl, j0, by omega⟩
          · exact ⟨b', rfl, b0, by omega⟩
        have E7 := E6.trans e7
        have S7 := S.stp hj.fd E7.st
        obtain ⟨kvs, g1, g2, g3⟩ := id S7.hd
        refine ⟨_, _, rfl, SqL.of hp7, _, hx, _, SqL.of S7.ls, _, rfl, _, SqL.of S7.ls, _, rfl, _, rfl, x, rfl, sz_le (by decide), fun p2 hp2 => ?_⟩
        have k1 := Same.new (o := .tup [.int (fr + x), .int 0]) (Same.refl H7) hp2
        have S9 := (S7.same k1).put (n := n) (k1 _ _ g1) upd_same nsd
        exact ⟨dh, rfl, _, .k (k := .inr n) (k1 _ _ g1) (sz_lt (by omega)), _, SqL.of S9.ls, _, rfl, _, rfl, x, rfl, _, S9.ls, _, rfl, qA n x _ hn x0 x1 ((stk_dict (E7.new hp2) (by decide) ndh).state nst) (S9.free nsd)⟩
      · rintro H3 ⟨S3, e3, hne⟩
        walk_at "rd"
        exact hN _ _ ⟨rfl, hne rfl, S3, e3⟩
    rintro σ3 H3 ⟨rfl, hne, S3, e3⟩
    have hold : held n = some (o, d) := hod.resolve_right hne
    obtain ⟨o0, o1, d0, d1⟩ := hh n o d hold
    have hz1 := hz.1
    have hz2 := hz.2
    refine cut_seq (fun σ H' => ∃ w : Int, σ = [some (.ref fa), some (.int z), some (.ref st), some (.int jm), some (.str n), some (.int o), some (.int d), none, none, some (.int w), none] ∧ 1 ≤ w ∧ w ≤ z - d ∧ JSt H' st dh em nl fr held ns i ∧ StJ fa 3 H H') (fun N hN => ?_) ?_
    · walk_at "rd"
      refine ⟨sz_le (by decide), fun p hp => ⟨fa, 4, k + 2, rfl, (e3.new hp).jr k hj, by omega, by decide, by decide +kernel, fun r G r0 r1 e => ?_⟩⟩
      have hp' := e.kp _ _ (e3.fd.ne hp) upd_same
      obtain ⟨v, hv, v1⟩ : ∃ v : Int, atI [V.int 1, .int 2, .int 5, .int z] r = some (.int v) ∧ 1 ≤ v := by
        rcases (by omega : r = 0 ∨ r = 1 ∨ r = 2 ∨ r = 3) with rfl | rfl | rfl | rfl
        · exact ⟨1, rfl, by decide⟩
        · exact ⟨2, rfl, by decide⟩
        · exact ⟨5, rfl, by decide⟩
        · exact ⟨z, rfl, hz1⟩
      have E := (e3.new (o := .lst [V.int 1, .int 2, .int 5, .int z]) hp).trans e
      exact ⟨_, _, rfl, SqL.of hp', _, hv, _, _, ⟨rfl, rfl⟩, hN _ _ ⟨_, rfl, by split <;> omega, by split <;> omega, S.stp hj.fd E.st, E⟩⟩
    rintro σ4 H4 ⟨w, rfl, w1, w2, S4, e4⟩
    refine cut_seq (fun σ H' => ∃ x : Int, σ = [some (.ref fa), some (.int z), some (.ref st), some (.int jm), some (.str n), some (.int o), some (.int d), none, none, some (.int w), some (.int x)] ∧ d ≤ x ∧ x < z ∧ JSt H' st dh em nl fr held ns i ∧ StJ fa 4 H H') (fun N hN => ?_) ?_
    · walk_at "rd"
      exact ⟨fa, w, k + 3, rfl, e4.jr k hj, by omega, by omega, hb _ (Int.le_trans (show w ≤ 10 ^ 30 by omega) (by decide +kernel)), fun r G r0 r1 e => ⟨r, rfl, hN _ _ ⟨d + r, rfl, by omega, by omega, S4.stp e4.fd e.st, e4.trans e⟩⟩⟩
    rintro σ5 H5 ⟨x, rfl, x0, x1, S5, e5⟩
    walk_at "rd"
    obtain ⟨kvs, g1, g2, g3⟩ := id S5.hd
    refine ⟨_, SqL.of S5.ls, _, rfl, sz_le (by decide), fun p hp => ?_⟩
    have k1 := Same.new (o := .tup [.int o, .int (x + 1)]) (Same.refl H5) hp
    have S9 := (S5.same k1).put (n := n) (k1 _ _ g1) upd_same nsd
    refine ⟨dh, rfl, _, .k (k := .inr n) (k1 _ _ g1) (sz_lt (by omega)), mulW_ok o0 (hb _ o1) (by omega) (Int.le_trans hz2 (by decide +kernel)), sz_le (by decide), fun p2 hp2 => ?_⟩
    exact qB n o d x p2 _ hn hold x0 x1 ((stk_dict (e5.new hp) (by decide) ndh).new hp2) (S9.same (Same.new (Same.refl _) hp2)) upd_same
theorem ok_law_scene {f : Addr} {fd : FuncData} (F : d_law_scene.Is K f fd) (T : Txt K mg)
    (c_law_tap : C8.Cal P w K mg base 1 "_law_tap" (sp_law_tap K) [])
    (c_law_names : C8.Cal P w K mg base 2 "_law_names" (sp_law_names K) [])
    (c_law_step : C8.Cal P w K mg base 2 "_law_step" (sp_law_step K) []) :
    FnOk P w K mg base CX0 3 f fd ["jar", "most", "many", "jumps"] (sp_law_scene K) := by
  refine F.ok sc_law_scene (fun vs H Q E h => ?_) (fun cdv A outer s H vs Q E hr h => ?_)
  · obtain ⟨fa, mo, ma, jm, k, rfl, hj, hk, mo1, mo2, ma1, ma2, j0, j1, q⟩ := h
    rfl
  · obtain ⟨fa, mo, ma, jm, k, rfl, hj, hk, mo1, mo2, ma1, ma2, j0, j1, q⟩ := h
    refine ⟨_, PSs.nox (pss_cons (ps_set (i := 4) sc_law_scene.nd rfl (Or.inl rfl) (pe_ix ix_list (pe_lst (pa_cons pe_int (pa_cons pe_int (pa_cons pe_int (pa_cons (pe_op op_add pe_int (C8.pe_c c_law_tap hr (by decide) (by rfl) (pa_cons (pv 0) (pa_cons pe_int pa_nil)))) (pa_cons pe_int (pa_cons (pe_op op_add (pe_op op_pow pe_int pe_int) (C8.pe_c c_law_tap hr (by decide) (by rfl) (pa_cons (pv 0) (pa_cons (pe_op op_pow pe_int pe_int) pa_nil)))) pa_nil))))))) (C8.pe_c c_law_tap hr (by decide) (by rfl) (pa_cons (pv 0) (pa_cons pe_int pa_nil))) (fun _ _ => rfl)))
        (pss_cons (ps_set (i := 5) sc_law_scene.nd rfl (Or.inl rfl) (pe_lst (pa_cons pe_int (pa_cons pe_dnewK (pa_cons (pe_lst pa_nil) (pa_cons (C8.pe_c c_law_names hr (by decide) (by rfl) (pa_cons (pv 0) (pa_cons (pe_op op_add pe_int (C8.pe_c c_law_tap hr (by decide) (by rfl) (pa_cons (pv 0) (pa_cons (pv 2) pa_nil)))) pa_nil))) pa_nil))))))
        (pss_cons (ps_set (i := 6) sc_law_scene.nd rfl (Or.inl rfl) (C8.pe_c c_law_tap hr (by decide) (by rfl) (pa_cons (pv 0) (pa_cons pe_int pa_nil))))
        (pss_cons (ps_set (i := 7) sc_law_scene.nd rfl (Or.inl rfl) (pe_lst pa_nil))
        (pss_cons (ps_for PassesOwn.never rfl (pi_range1 (by rfl) T.n_range (pa_cons (pe_op op_mul pe_int (pv 1)) pa_nil)) (pg_name (i := 8) sc_law_scene.nd rfl (Or.inl rfl))
          (pss_cons (ps_set (i := 9) sc_law_scene.nd rfl (Or.inl rfl) (C8.pe_c c_law_step hr (by decide) (by rfl) (pa_cons (pv 0) (pa_cons (pv 4) (pa_cons (pv 5) (pa_cons (pv 3) pa_nil))))))
          (pss_one (ps_if (PW.pt (pw_and (pt_cmpR op_notN (pv 9) pe_non (nomark _)) (pw_and (pt_cmpR op_lt (pe_callB call_len_seq (by rfl) T.n_len (by decide +kernel) (pa_cons (pv 7) pa_nil)) (pv 1) (nomark _)) (pw_and1 (pt_cmpR op_ge (C8.pe_c c_law_tap hr (by decide) (by rfl) (pa_cons (pv 0) (pa_cons pe_int pa_nil))) (pv 6) (nomark _))))))
            (pss_one (ps_expr (pe_bm PySem.F.plainAttrs_list PySem.F.slot_list_append PySem.F.type_list_append mt_append (pv 7) (pa_cons (pv 9) pa_nil))))
            pss_nil))))
        (pss_one (ps_ret (pe_tup (pa_cons (pv 4) (pa_cons (pe_ix ix_list (pv 5) pe_int (fun _ _ => rfl)) (pa_cons (pv 7) pa_nil))))))))))), ?_⟩
    have hb : ∀ n : Int, n ≤ 10 ^ 100 → n ≤ 10 ^ 200 := fun n h => Int.le_trans h (by decide +kernel)
    refine cut_seq (fun σ H' => ∃ z : Int, σ = [some (.ref fa), some (.int mo), some (.int ma), some (.int jm), some (.int z), none, none, none, none, none] ∧ SizeOk z ∧ StJ fa 3 H H') (fun N hN => ?_) ?_
    · walk_at "rd"
      refine ⟨fa, 9, k, rfl, hj, by omega, by decide, by decide +kernel, fun r H1 r0 r1 e1 => ⟨_, rfl, ⟨by decide, by decide, by decide⟩, ⟨by decide, by decide, by decide⟩, fa, _, k + 1, rfl, e1.jr k hj, by omega, by decide +kernel, by decide +kernel, fun r2 H2 r20 r21 e2 => ⟨_, rfl, sz_le (by decide), fun p hp => ?_⟩⟩⟩
      have E2 := (e1.trans e2).new (o := .lst [.int 1, .int 2, .int 3, .int (1 + r), .int 100, .int (10 ^ Int.toNat 20 + r2)]) hp
      refine ⟨fa, 6, k + 2, rfl, E2.jr k hj, by omega, by decide, by decide +kernel, fun r3 H3 c0 c1 e3 => ?_⟩
      have hp' := e3.kp _ _ ((e1.trans e2).fd.ne hp) upd_same
      obtain ⟨v, hv, v1, v2⟩ : ∃ v : Int, atI [V.int 1, .int 2, .int 3, .int (1 + r), .int 100, .int (10 ^ Int.toNat 20 + r2)] r3 = some (.int v) ∧ 1 ≤ v ∧ v ≤ 10 ^ 30 := by
        have h20 : (10 : Int) ^ Int.toNat 20 + 10 ^ Int.toNat 9 ≤ 10 ^ 30 := by decide +kernel
        have h21 : (1 : Int) ≤ 10 ^ Int.toNat 20 := by decide +kernel
        rcases (by omega : r3 = 0 ∨ r3 = 1 ∨ r3 = 2 ∨ r3 = 3 ∨ r3 = 4 ∨ r3 = 5) with rfl | rfl | rfl | rfl | rfl | rfl
        · exact ⟨1, rfl, by decide, by decide +kernel⟩
        · exact ⟨2, rfl, by decide, by decide +kernel⟩
        · exact ⟨3, rfl, by decide, by decide +kernel⟩
        · exact ⟨1 + r, rfl, by omega, Int.le_trans (show 1 + r ≤ 10 by omega) (by decide +kernel)⟩
        · exact ⟨100, rfl, by decide, by decide +kernel⟩
        · exact ⟨10 ^ Int.toNat 20 + r2, rfl, by omega, by omega⟩
      exact ⟨_, _, rfl, SqL.of hp', _, hv, hN _ _ ⟨v, rfl, ⟨v1, v2⟩, E2.trans e3⟩⟩
    rintro σ1 H1 ⟨z, rfl, hz, e1⟩
    have hz1 := hz.1
    have hz2 := hz.2
    refine cut_seq (fun σ H' => ∃ st dh em nl ns, σ = [some (.ref fa), some (.int mo), some (.int ma), some (.int jm), some (.int z), some (.ref st), none, none, none, none] ∧ H st = none ∧ H dh = none ∧ Crew ns ∧ (ns.length : Int) ≤ ma ∧ JSt H' st dh em nl 0 (fun _ => none) ns 0 ∧ (∀ n ∈ ns, n ≠ zedS) ∧ StJ fa 28 H H') (fun N hN => ?_) ?_
    · walk_at "rd"
      intro dh hdh
      have g1 := e1.new (o := .dK []) hdh
      refine ⟨Nat.zero_le _, fun em hem => ?_⟩
      have g2 := g1.new (o := .lst []) hem
      have hd2 : upd (upd H1 dh (.dK [])) em (.lst []) dh = some (.dK []) := upd_keep upd_same (ne_of_none upd_same hem)
      have ndf : dh ≠ fa := e1.fd.ne hdh
      refine ⟨fa, ma, k + 3, rfl, g2.jr k hj, by omega, by omega, hb _ (Int.le_trans ma2 (by decide +kernel)), fun r H2 r0 r1 e2 => ⟨_, rfl, fa, 1 + r, k + 4, rfl, (g2.trans e2).jr k hj, by omega, by omega, by omega, fun c ns H3 hc0 e3 hc hcr hlen hzed => ⟨sz_le (by decide), fun st hst => ?_⟩⟩⟩
      have E := (g2.trans e2).trans e3
      have hd3 := e3.kp _ _ ndf (e2.kp _ _ ndf hd2)
      exact hN _ _ ⟨st, dh, em, c, ns, rfl, E.free (E.fd.ne hst) hst, e1.free ndf hdh, hcr, by omega, ⟨upd_same, ⟨[], upd_keep hd3 (ne_of_none hd3 hst), Nat.le_refl _, fun n => .inl ⟨rfl, rfl⟩⟩, upd_keep hc (ne_of_none hc hst)⟩, hzed, E.new hst⟩
    rintro σ2 H2 ⟨st, dh, em, nl, ns, rfl, hst, hdh, hcr, hma, S2, hzed, e2⟩
    refine cut_seq (fun σ H' => ∃ hi, σ = [some (.ref fa), some (.int mo), some (.int ma), some (.int jm), some (.int z), some (.ref st), some (.int hi), none, none, none] ∧ JSt H' st dh em nl 0 (fun _ => none) ns 0 ∧ StJ fa 29 H H') (fun N hN => ?_) ?_
    · walk_at "rd"
      exact ⟨fa, 4, k + 28, rfl, e2.jr k hj, by omega, by decide, by decide +kernel, fun r G r0 r1 e => hN _ _ ⟨r, rfl, S2.stp e2.fd e.st, e2.trans e⟩⟩
    rintro σ3 H3 ⟨hd', rfl, S3, e3⟩
    refine cut_seq (fun σ H' => ∃ s, σ = [some (.ref fa), some (.int mo), some (.int ma), some (.int jm), some (.int z), some (.ref st), some (.int hd'), some (.ref s), none, none] ∧ H s = none ∧ EntsAt H' s [] ∧ JSt H' st dh em nl 0 (fun _ => none) ns 0 ∧ StJ fa 29 H H') (fun N hN => ?_) ?_
    · walk_at "rd"
      exact ⟨Nat.zero_le _, fun s hs => hN _ _ ⟨s, rfl, e3.free (e3.fd.ne hs) hs, ⟨[], upd_same, trivial⟩, S3.same (Same.new (Same.refl _) hs), e3.new hs⟩⟩
    rintro σ4 H4 ⟨s', rfl, hs', he4, S4, e4⟩
    refine cut_seq (fun σ H' => ∃ es tks held fr j t8 t9, σ = [some (.ref fa), some (.int mo), some (.int ma), some (.int jm), some (.int z), some (.ref st), some (.int hd'), some (.ref s'), t8, t9] ∧ EntsAt H' s' es ∧ JSt H' st dh em nl fr held ns j ∧ Logic z mo ns es tks held fr ∧ fr ≤ 180 * (jm + 4) ∧ StJ fa 2000 H H') (fun N hN => ?_) ?_
    · walk_at "rd"
      have hne : ns ≠ [] := fun h => by
        have := hcr.few
        rw [h] at this
        exact absurd this.1 (by decide)
      refine ⟨.inl ⟨by decide, by decide⟩, by omega, by omega, loop_rng (fun i σ' H' => ∃ (es : List En) (tks : List Take) (held : Str → Option (Int × Int)) (fr : Int) (t8 t9 : Option V), σ' = [some (.ref fa), some (.int mo), some (.int ma), some (.int jm), some (.int z), some (.ref st), some (.int hd'), some (.ref s'), t8, t9] ∧ EntsAt H' s' es ∧ JSt H' st dh em nl fr held ns i ∧ Logic z mo ns es tks held fr ∧ fr ≤ (i : Int) * (jm + 4) ∧ StJ fa (29 + 9 * i) H H') ⟨[], [], _, 0, _, _, rfl, he4, S4, logic_nil hz1 (by omega), by simp, e4⟩ ?_ ?_⟩
      · rintro i σ' H' hi ⟨es, tks, held, fr, t8, t9, rfl, he, S, L, hfr, e⟩
        have hi' : i < 180 := by omega
        have fr0 := L.f0
        have hstep : ((i + 1 : Nat) : Int) * (jm + 4) = (i : Int) * (jm + 4) + (jm + 4) := by
          rw [show ((i + 1 : Nat) : Int) = (i : Int) + 1 by omega, Int.add_mul, Int.one_mul]
        have frb : fr ≤ 10 ^ 100 := by
          have h1 : (i : Int) * (jm + 4) ≤ 180 * (10 ^ 36 + 4) := Int.mul_le_mul (by omega) (by omega) (by omega) (by decide)
          have h2 : (180 : Int) * (10 ^ 36 + 4) ≤ 10 ^ 100 := by decide +kernel
          omega
        have hh : ∀ n o d, held n = some (o, d) → 0 ≤ o ∧ o ≤ 10 ^ 100 ∧ 0 ≤ d ∧ d ≤ z := fun n o d h => by
          obtain ⟨h1, h2, ⟨t, h3, h4, h5⟩, _⟩ := L.hd n o d h
          have h6 := L.T.rng t h3
          exact ⟨by omega, by omega, h1, h2⟩
        simp only [gName, List.set_cons_succ, List.set_cons_zero]
        refine cut_seq (fun σ H2 => (σ = [some (.ref fa), some (.int mo), some (.int ma), some (.int jm), some (.int z), some (.ref st), some (.int hd'), some (.ref s'), some (.int (i : Int)), some .non] ∧ ∃ n x, n ∈ ns ∧ 0 ≤ x ∧ x ≤ jm + 3 ∧ JSt H2 st dh em nl (fr + x + 1) (putH held n (fr + x, 0)) ns (i + 1) ∧ EntsAt H2 s' es ∧ StJ fa (29 + 9 * i + 8) H H2) ∨ (∃ n o d x t, σ = [some (.ref fa), some (.int mo), some (.int ma), some (.int jm), some (.int z), some (.ref st), some (.int hd'), some (.ref s'), some (.int (i : Int)), some (.ref t)] ∧ n ∈ ns ∧ held n = some (o, d) ∧ d ≤ x ∧ x < z ∧ JSt H2 st dh em nl fr (putH held n (o, x + 1)) ns (i + 1) ∧ H2 t = some (.tup [.str n, .int (o * z + x)]) ∧ EntsAt H2 s' es ∧ StJ fa (29 + 9 * i + 8) H H2)) (fun N2 hN2 => ?_) ?_
        · walk_at "rd"
          exact ⟨fa, st, dh, em, nl, z, jm, k + (29 + 9 * i), fr, held, ns, i, rfl, e.jr k hj, by omega, hz, j0, j1, S, by omega, hcr.few.1, hcr.few.2, hh, fr0, frb, fun n x H2 hn x0 x1 K2 S2 => hN2 _ _ (.inl ⟨rfl, n, x, hn, x0, x1, S2, ents_stk K2 S e.fd he, StK.out e K2 hst hdh hj⟩), fun n o d x t H2 hn hold x0 x1 K2 S2 ht => hN2 _ _ (.inr ⟨n, o, d, x, t, rfl, hn, hold, x0, x1, S2, ht, ents_stk K2 S e.fd he, StK.out e K2 hst hdh hj⟩)⟩
        rintro σ2 H2 (⟨rfl, n, x, hn, x0, x1, S2, he2, E2⟩ | ⟨n, o, d, x, t, rfl, hn, hold, x0, x1, S2, ht, he2, E2⟩)
        · walk_at "rd"
          have L2 := L.take x0 hn
          rw [show fr + (1 + x) - 1 = fr + x by omega, show fr + (1 + x) = fr + x + 1 by omega] at L2
          exact ifN (by simp) ⟨es, _, _, _, _, _, ⟨rfl, rfl⟩, he2, S2, L2, by omega, E2.mono (by omega)⟩
        · walk_at "rd"
          obtain ⟨o0, o1, d0, d1⟩ := hh n o d hold
          obtain ⟨ts, k1, k2⟩ := id he2
          have kl := k2.len
          have Lh := L.hold hold x0 x1
          refine ifP (by simp) ⟨_, .inl (SqL.of k1), ite2 (fun hlt => ⟨fa, 4, k + (29 + 9 * i + 8), rfl, E2.jr k hj, by omega, by decide, by decide +kernel, fun r G r0 r1 eg => ⟨_, rfl, ite2 (fun _ => ?_) (fun _ => ⟨_, _, _, _, _, _, ⟨rfl, rfl⟩, he2.stp E2.fd eg.st, S2.stp E2.fd eg.st, Lh, by omega, (E2.trans eg).mono (by omega)⟩)⟩⟩) (fun _ => ⟨_, _, _, _, _, _, ⟨rfl, rfl⟩, he2, S2, Lh, by omega, E2.mono (by omega)⟩)⟩
          rw [List.length_map, kl] at hlt
          have nsf := ne_refs E2.fd k1
          have S3 := S2.stp E2.fd eg.st
          have k1' := eg.kp _ _ nsf k1
          have ht' := eg.kp _ _ (ne_tup E2.fd ht) ht
          have k2' : Ents G ts es := k2.imp fun t xs g => eg.kp _ _ (ne_tup E2.fd g) g
          have kt : ∀ t' ys, G t' = some (.tup ys) → upd G s' (.lst (ts.map V.ref ++ [.ref t])) t' = some (.tup ys) := fun t' ys g => upd_keep g (ne_of g k1' (by simp))
          exact ⟨.inl ⟨rfl, _, SqL.of k1'⟩, s', _, _, rfl, rfl, k1', sz_lt (by rw [List.length_map]; omega), es ++ [(n, o * z + x)], _, _, _, _, _, ⟨rfl, rfl⟩, ⟨ts ++ [t], by rw [upd_same, List.map_append]; rfl, Ents.app (e := (n, o * z + x)) (kt _ _ ht') (k2'.imp kt)⟩, S3.mutS k1' hne, L.show hold x0 x1 hn hlt o0, by omega, ((E2.trans eg).mut hs' nsf).mono (by omega)⟩
      · rintro σ' H' ⟨es, tks, held, fr, t8, t9, rfl, he, S, L, hfr, e⟩
        have hm3 : (((3 * mo).toNat : Nat) : Int) * (jm + 4) ≤ 180 * (jm + 4) := Int.mul_le_mul_of_nonneg_right (by omega) (by omega)
        exact hN _ _ ⟨es, tks, held, fr, _, _, _, rfl, he, S, L, by omega, e.mono (by omega)⟩
    rintro σ5 H5 ⟨es, tks, held, fr, j, t8, t9, rfl, he5, S5, L, hfr, e5⟩
    walk_at "rd"
    have hne : Feed H5 fa := e5.fd
    refine ⟨_, SqL.of S5.ls, _, rfl, sz_le (by decide), fun r hr => ?_⟩
    have k1 := Same.new (o := .tup [.int z, .ref nl, .ref s']) (Same.refl H5) hr
    have hfr' : fr ≤ 10 ^ 40 := by
      have h1 : (180 : Int) * (jm + 4) ≤ 180 * (10 ^ 36 + 4) := by omega
      have h2 : (180 : Int) * (10 ^ 36 + 4) ≤ 10 ^ 40 := by decide +kernel
      omega
    have hfz : fr * z ≤ 10 ^ 40 * 10 ^ 30 := Int.mul_le_mul hfr' hz2 (by omega) (by decide)
    have h80 : (10 : Int) ^ 40 * 10 ^ 30 ≤ 10 ^ 80 := by decide +kernel
    exact q r z nl s' ns es tks fr _ (e5.free (hne.ne hr) hr) (e5.new hr) upd_same hz (S5.cr.same k1) hcr hma (he5.same k1) L.len L.nm L.T L.tn (fun e he => by have := L.below he; omega) hfr hzed
theorem ok_law_made {f : Addr} {fd : FuncData} (F : d_law_made.Is K f fd) (T : Txt K mg)
    (c_mk_LosingLog : C8.Mak P w K mg base 5 "LosingLog" (He.ga K "LosingLog") (sp_Log_init K) [])
    (c_mk_Log : C8.Mak P w K mg base 5 "Log" (He.ga K "Log") (sp_Log_init K) []) :
    FnOk P w K mg base CX0 7 f fd ["is_losing", "size_here", "names_here", "entries_here"] (sp_law_made K) := by
  refine F.ok sc_law_made (fun vs H Q E h => ?_) (fun cdv A outer s H vs Q E hr h => ?_)
  · obtain ⟨b, z, c, s', ns, es, rfl, hw, hc, hs, q⟩ := h
    rfl
  · obtain ⟨b, z, c, s', ns, es, rfl, hw, hc, hs, q⟩ := h
    refine ⟨_, PSs.nox (pss_one (ps_ret (pe_ifExp (pt_val (pv 0)) (C8.pe_mk c_mk_LosingLog hr (by decide) (by rfl) (pa_cons (pv 1) (pa_cons (pv 2) (pa_cons (pv 3) pa_nil)))) (C8.pe_mk c_mk_Log hr (by decide) (by rfl) (pa_cons (pv 1) (pa_cons (pv 2) (pa_cons (pv 3) pa_nil))))))), ?_⟩
    walk_at "rd"
    cases b with
    | true => exact ifP rfl (mk_newX (b := true) hw hc hs q)
    | false => exact ifN (by decide) (mk_newX (b := false) hw hc hs q)
theorem ok_law_later_right {f : Addr} {fd : FuncData} (F : d_law_later_right.Is K f fd) (T : Txt K mg)
    (c_Log_servers : C8.CalAt P w K mg base 1 (d_Log_servers.way K) (sp_Log_servers K))
    (c_law_tap : C8.Cal P w K mg base 1 "_law_tap" (sp_law_tap K) [])
    (c_Log_entries : C8.CalAt P w K mg base 1 (d_Log_entries.way K) (sp_Log_entries K))
    (c_Log_size : C8.CalAt P w K mg base 1 (d_Log_size.way K) (sp_Log_size K))
    (c_mk_Log : C8.Mak P w K mg base 5 "Log" (He.ga K "Log") (sp_Log_init K) [])
    (c_count_lists : C8.Cal P w K mg base 14 "count_lists" (sp_count_lists K) [])
    (c_nth_list : C8.Cal P w K mg base 14 "nth_list" (sp_nth_list K) [])
    (c_list_index : C8.Cal P w K mg base 14 "list_index" (sp_list_index K) []) :
    FnOk P w K mg base CX0 15 f fd ["jar", "book", "whole"] (sp_law_later_right K) := by
  refine F.ok sc_law_later_right (fun vs H Q E h => ?_) (fun cdv A outer s H vs Q E hr h => ?_)
  · obtain ⟨fa, bk, b, z, ns, es, k, rfl, hj, hk, hb, ho, ht, hne, hl, q⟩ := h
    rfl
  · obtain ⟨fa, bk, b, z, ns, es, k, rfl, hj, hk, hb, ho, ht, hne, hl, q⟩ := h
    refine ⟨_, PSs.nox (pss_cons (ps_asg (pe_tup (pa_cons (pe_prp2 T.p_servers c_Log_servers hr (by decide) (pv 1)) (pa_cons (pe_op op_add pe_int (C8.pe_c c_law_tap hr (by decide) (by rfl) (pa_cons (pv 0) (pa_cons pe_int pa_nil)))) pa_nil))) (pg_tup (by rfl) (pgs_cons (pg_name (i := 3) sc_law_later_right.nd rfl (Or.inr rfl)) (pgs_cons (pg_name (i := 4) sc_law_later_right.nd rfl (Or.inr rfl)) pgs_nil))))
        (pss_cons (ps_setLc (i := 5) (own := [("name", 10), ("number", 14)]) (g := gTup K 2 (gCons (gName 10) (gCons (gName 14) gNil))) (tt := tYes) (by rfl) sc_law_later_right.nd rfl rfl (sw_true rfl rfl rfl (by decide +kernel)) (pi_list (pe_prp2 T.p_entries c_Log_entries hr (by decide) (pv 1))) (blkOk_by (N := ["jar", "book", "whole", "names_here", "blocks_here", "shifted", "later", "many", "front", "place", "name", "spot", "told", "due", "number", "turn"]) (sc := defScope s_law_later_right) (by decide +kernel)) (fun _ _ _ _ _ => (pg_tupK (K := K) rfl (by rfl) (pgs_cons (pg_name (i := 10) sc_law_later_right.nd rfl (Or.inl rfl)) (pgs_cons (pg_name (i := 14) sc_law_later_right.nd rfl (Or.inl rfl)) pgs_nil)))) (fun _ _ _ _ _ => pts_nil) (fun _ _ _ _ _ => (pe_tup (pa_cons (pv 10) (pa_cons (pe_op op_add (pv 14) (pe_op op_mulW (pv 4) (pe_prp2 T.p_size c_Log_size hr (by decide) (pv 1)))) pa_nil)))))
        (pss_cons (ps_par (i := 6) (j := 7) (by rfl) sc_law_later_right.nd rfl rfl (by decide) rfl rfl (pa_cons (C8.pe_mk c_mk_Log hr (by decide) (by rfl) (pa_cons (pe_prp2 T.p_size c_Log_size hr (by decide) (pv 1)) (pa_cons (pv 3) (pa_cons (pv 5) pa_nil)))) (pa_cons (pv 2) pa_nil)) (by rfl))
        (pss_cons (ps_setLc (i := 8) (own := [("turn", 15)]) (g := gName 15) (tt := tYes) (by rfl) sc_law_later_right.nd rfl rfl (sw_true rfl rfl rfl (by decide +kernel)) (pi_range1 (by rfl) T.n_range (pa_cons (pv 4) pa_nil)) (blkOk_by (N := ["jar", "book", "whole", "names_here", "blocks_here", "shifted", "later", "many", "front", "place", "name", "spot", "told", "due", "number", "turn"]) (sc := defScope s_law_later_right) (by decide +kernel)) (fun _ _ _ _ _ => (pg_name (i := 15) sc_law_later_right.nd rfl (Or.inl rfl))) (fun _ _ _ _ _ => pts_nil) (fun _ _ _ _ _ => (pe_ix (ix_listK (K := K) rfl) (pv 3) (C8.pe_c c_law_tap hr (by decide) (by rfl) (pa_cons (pv 0) (pa_cons (pe_callB (call_lenK (K := K) rfl) (by rfl) T.n_len (by decide +kernel) (pa_cons (pv 3) pa_nil)) pa_nil))) (fun _ _ => rfl))))
        (pss_cons (ps_set (i := 9) sc_law_later_right.nd rfl (Or.inl rfl) pe_int)
        (pss_cons (ps_for PassesOwn.never rfl (pi_list (pv 8)) (pg_name (i := 10) sc_law_later_right.nd rfl (Or.inl rfl))
          (pss_cons (ps_set (i := 7) sc_law_later_right.nd rfl (Or.inl rfl) (pe_op op_mulW (pv 7) (pe_callB call_len_seq (by rfl) T.n_len (by decide +kernel) (pa_cons (pv 3) pa_nil))))
          (pss_one (ps_set (i := 9) sc_law_later_right.nd rfl (Or.inl rfl) (pe_op op_add (pe_op op_mulW (pv 9) (pe_callB call_len_seq (by rfl) T.n_len (by decide +kernel) (pa_cons (pv 3) pa_nil))) (pe_bm PySem.F.plainAttrs_list PySem.F.slot_list_index PySem.F.type_list_index mt_index (pv 3) (pa_cons (pv 10) pa_nil)))))))
        (pss_cons (ps_if (pt_cmpR op_ne (C8.pe_c c_count_lists hr (by decide) (by rfl) (pa_cons (pv 6) pa_nil)) (pv 7) (nomark _))
          (pss_one (ps_ret pe_bl))
          pss_nil)
        (pss_cons (ps_set (i := 11) sc_law_later_right.nd rfl (Or.inl rfl) (C8.pe_c c_law_tap hr (by decide) (by rfl) (pa_cons (pv 0) (pa_cons (pe_callB (call_min2 rfl) (by rfl) T.n_min (by decide +kernel) (pa_cons (pv 2) (pa_cons (pe_op op_pow pe_int pe_int) pa_nil))) pa_nil))))
        (pss_cons (ps_set (i := 12) sc_law_later_right.nd rfl (Or.inl rfl) (pe_op op_cat (pv 8) (C8.pe_c c_nth_list hr (by decide) (by rfl) (pa_cons (pv 1) (pa_cons (pv 11) pa_nil)))))
        (pss_cons (ps_set (i := 13) sc_law_later_right.nd rfl (Or.inl rfl) (pe_op op_add (pe_op op_mulW (pv 9) (pv 2)) (pv 11)))
        (pss_cons (ps_if (pt_cmpR op_ne (C8.pe_c c_list_index hr (by decide) (by rfl) (pa_cons (pv 6) (pa_cons (pv 12) pa_nil))) (pv 13) (nomark _))
          (pss_one (ps_ret pe_bl))
          pss_nil)
        (pss_one (ps_ret (pe_or (pe_cmpR op_gt (pv 2) (pe_op op_pow pe_int pe_int) (nomark _)) (pe_one (pe_cmpR (op_eqD hr.units) (C8.pe_c c_nth_list hr (by decide) (by rfl) (pa_cons (pv 6) (pa_cons (pv 13) pa_nil))) (pv 12) (nomark _))))))))))))))))), ?_⟩
    obtain ⟨dx, ls, le, hb1, _, _, hw⟩ := id hb
    have pos := wf_pos hw
    have hz1 := hw.sz.1
    have hz2 := hw.sz.2
    have hns := crew_ne hw.cr
    have nl12 := hw.cr.few
    have few := hw.en.few
    refine cut_seq (fun σ H' => ∃ c, ∃ m : Nat, σ = [some (.ref fa), some (.ref bk), some (.int (cntO z ns es)), some (.ref c), some (.int (m : Int)), none, none, none, none, none, none, none, none, none, none, none] ∧ 1 ≤ m ∧ m ≤ 4 ∧ CrewAt H' c ns ∧ StJ fa 1 H H') (fun N hN => ?_) ?_
    · walk_at "rd"
      refine ⟨b, dx, _, hb1, bk, b, z, ns, es, rfl, hb, fun c H1 hc0 u1 hc1 => ⟨fa, 4, k, rfl, hj.same u1, by omega, by decide, by decide +kernel, fun r H2 r0 r1 e2 => ⟨r, rfl, sz_le (by decide), fun p hp => ⟨_, SqT.of upd_same, rfl, _, _, rfl, _, _, rfl, rfl, ?_⟩⟩⟩⟩
      have E : StJ fa 1 H H2 := ((StJ.of u1 hj.fd).trans e2).mono (by omega)
      have c2 : CrewAt H2 c ns := hc1.stp (hj.same u1).fd e2.st
      have kp := Same.new (o := .tup [.ref c, .int (1 + r)]) (Same.refl H2) hp
      exact hN _ _ ⟨c, (1 + r).toNat, by rw [show (((1 + r).toNat : Nat) : Int) = 1 + r by omega], by omega, by omega, c2.same kp, E.same kp⟩
    rintro σ1 H1 ⟨c, m, rfl, m1, m4, hc, e1⟩
    refine cut_seq (fun σ H' => ∃ s, σ = [some (.ref fa), some (.ref bk), some (.int (cntO z ns es)), some (.ref c), some (.int (m : Int)), some (.ref s), none, none, none, none, none, none, none, none, none, none] ∧ EntsAt H' s (later z m es) ∧ Same H1 H') (fun N hN => ?_) ?_
    · walk_at "rd"
      have hbx := hb.stp hj.fd e1.st
      obtain ⟨dx, ls, le, hb1, _⟩ := id hbx
      refine ⟨b, dx, _, hb1, bk, b, z, ns, es, rfl, hbx, fun s0 H2 hs0 u2 hs2 => ⟨s0, rfl, ?_⟩⟩
      obtain ⟨ts, hts, hen⟩ := id hs2
      have tl := Ents.len hen
      refine ⟨⟨_, SqL.of hts⟩, fun L hL => comp_list (ts.map V.ref) (fun i H' => Same H2 H' ∧ ∃ us, H' L = some (.lst (us.map V.ref)) ∧ Ents H' us ((es.take i).map (addE ((m : Int) * z)))) ⟨Same.new (Same.refl _) hL, [], upd_same, trivial⟩ (fun i H' _ k => SqL.of (k.1 _ _ hts)) ?_ ?_⟩
      · rintro i x H' hi ⟨e, us, f1, f2⟩
        rw [List.getElem?_map] at hi
        obtain ⟨u, hu, rfl⟩ := Option.map_eq_some_iff.mp hi
        obtain ⟨en, he, hue⟩ := hen.get hu
        have hlt := (List.getElem?_eq_some_iff.mp he).1
        have gl := f2.len
        rw [List.length_map, List.length_take] at gl
        have tk : (es.take (i + 1)).map (addE ((m : Int) * z)) = (es.take i).map (addE ((m : Int) * z)) ++ [addE ((m : Int) * z) en] := by
          rw [List.take_add_one, he, List.map_append]
          rfl
        simp only [gTup, gCons, gNil, gName, List.set_cons_succ, List.set_cons_zero]
        walk_at "rd"
        have hbx2 := (hbx.same u2).same e
        obtain ⟨dx2, ls2, le2, hb2, _⟩ := id hbx2
        refine ⟨_, SqT.of (e _ _ hue), rfl, _, _, rfl, _, _, rfl, rfl, b, dx2, _, hb2, bk, b, z, ns, es, rfl, hbx2, z, rfl, mulW_ok (by omega) (Int.le_trans (b := 4) (by omega) (by decide +kernel)) (by omega) (Int.le_trans hz2 (by decide +kernel)), _, rfl, sz_le (by decide), fun p hp => ?_⟩
        have kp := Same.new (o := .tup [.str en.1, .int (en.2 + (m : Int) * z)]) (Same.refl H') hp
        have kk : ∀ t xs, upd H' p (.tup [.str en.1, .int (en.2 + (m : Int) * z)]) t = some (.tup xs) → upd (upd H' p (.tup [.str en.1, .int (en.2 + (m : Int) * z)])) L (.lst (us.map V.ref ++ [.ref p])) t = some (.tup xs) := fun t xs h => upd_keep h (ne_of h (kp _ _ f1) (by simp))
        refine ⟨_, kp _ _ f1, sz_lt (by rw [List.length_map]; omega), Nb.Same.mut (e.trans kp) hL, us ++ [p], by rw [upd_same, List.map_append]; rfl, ?_⟩
        rw [tk]
        exact Ents.app (e := addE ((m : Int) * z) en) (kk _ _ upd_same) (f2.imp fun t xs h => kk _ _ (kp _ _ h))
      · rintro H' ⟨e, us, f1, f2⟩
        rw [List.length_map, tl, List.take_length] at f2
        exact hN _ _ ⟨L, rfl, ⟨us, f1, f2⟩, u2.trans e⟩
    rintro σ2 H2 ⟨s, rfl, hs, e2⟩
    have poss : ∀ e ∈ later z m es, 0 ≤ e.2 := fun e he => by
      obtain ⟨e', he', rfl⟩ := List.mem_map.mp he
      have := pos e' he'
      have := Int.mul_nonneg (show (0 : Int) ≤ (m : Int) by omega) (show 0 ≤ z by omega)
      show 0 ≤ e'.2 + (m : Int) * z
      omega
    have A := alike_add (z := z) (s := (m : Int)) hz1
    have hwM : WF z ns (later z m es) := wf_map hw hw.sz A fun e he => poss _ (List.mem_map.mpr ⟨e, he, rfl⟩)
    have hoM : obsD z ns (later z m es) = .none := (A.poss hns (by omega) hz1 hz1 pos poss).mpr ho
    have htM : topB z (later z m es) = topB z es + m := A.topB hz1 hz1 pos poss hne
    have hrM : rowsO z ns (later z m es) = List.replicate m ns ++ rowsO z ns es := rows_later hz1 pos hns hne hoM
    have hg := good_rows hz1 pos ho hw.cr.nd
    have hgM := good_rows hz1 poss hoM hw.cr.nd
    have E12 := e1.same e2
    refine cut_seq (fun σ H' => ∃ lo, σ = [some (.ref fa), some (.ref bk), some (.int (cntO z ns es)), some (.ref c), some (.int (m : Int)), some (.ref s), some (.ref lo), some (.int (cntO z ns es)), none, none, none, none, none, none, none, none] ∧ LogAt K H' lo false z ns (later z m es) ∧ Same H2 H') (fun N hN => ?_) ?_
    · walk_at "rd"
      have hbx := (hb.stp hj.fd e1.st).same e2
      obtain ⟨dx, ls, le, hb1, _⟩ := id hbx
      refine ⟨b, dx, _, hb1, bk, b, z, ns, es, rfl, hbx, ?_⟩
      exact mk_at (b := false) hwM (hc.same e2) hs fun x HX hx eX hX => ⟨_, _, ⟨rfl, rfl⟩, hN _ _ ⟨x, rfl, hX, eX⟩⟩
    rintro σ3 H3 ⟨lo, rfl, hlo, e3⟩
    have E13 := E12.same e3
    have hc3 := (hc.same e2).same e3
    refine cut_seq (fun σ H' => ∃ (fr : Addr) (xs : List Str), σ = [some (.ref fa), some (.ref bk), some (.int (cntO z ns es)), some (.ref c), some (.int (m : Int)), some (.ref s), some (.ref lo), some (.int (cntO z ns es)), some (.ref fr), none, none, none, none, none, none, none] ∧ H' fr = some (.lst (xs.map V.str)) ∧ fr ≠ fa ∧ xs.length = m ∧ (∀ x ∈ xs, x ∈ ns) ∧ StJ fa 4 H3 H') (fun N hN => ?_) ?_
    · walk_at "rd"
      refine ⟨by omega, by omega, fun L hL => ?_⟩
      have nLf := E13.fd.ne hL
      refine comp_rng (fun i H' => (∃ xs : List Str, H' L = some (.lst (xs.map V.str)) ∧ xs.length = i ∧ ∀ x ∈ xs, x ∈ ns) ∧ StJ fa i H3 H') ⟨⟨[], upd_same, rfl, by simp⟩, (StJ.refl E13.fd).new hL⟩ ?_ ?_
      · rintro i H' hi ⟨⟨xs, f1, f2, f3⟩, e⟩
        have hi2 : i < m := by simpa using hi
        have E := E13.trans e
        walk_at "rd"
        refine ⟨_, .inl (CrewAt.sq (hc3.stp E13.fd e.st)), fa, _, k + (1 + i), rfl, E.jr k hj, by omega, by rw [List.length_map]; omega, Int.le_trans (b := 12) (by rw [List.length_map]; omega) (by decide +kernel), fun r H5 r0 r1 e5 => ?_⟩
        rw [List.length_map] at r1
        obtain ⟨j, rfl⟩ : ∃ j : Nat, r = (j : Int) := ⟨r.toNat, by omega⟩
        have hjn : j < ns.length := by omega
        refine ⟨_, _, rfl, CrewAt.sq (hc3.stp E13.fd (e.trans e5).st), .str ns[j], atI_nat (by rw [List.getElem?_map, List.getElem?_eq_getElem hjn]; rfl), _, e5.kp _ _ nLf f1, sz_lt (by rw [List.length_map]; omega), ⟨xs ++ [ns[j]], by rw [upd_same, List.map_append]; rfl, by rw [List.length_append, f2]; rfl, fun x hx => ?_⟩, (e.trans e5).mut hL nLf⟩
        rcases List.mem_append.mp hx with h | h
        · exact f3 x h
        · rw [List.mem_singleton.mp h]
          exact List.getElem_mem hjn
      · rintro H' ⟨⟨xs, f1, f2, f3⟩, e⟩
        rw [Int.toNat_natCast] at f2 e
        exact hN _ _ ⟨L, xs, rfl, f1, nLf, f2, f3, e.mono m4⟩
    rintro σ4 H4 ⟨fr, xs, rfl, hfr, nfr, xl, xin, e4⟩
    have E14 := E13.trans e4
    have hc4 := hc3.stp E13.fd e4.st
    have cb0 := prodO_bd (z := z) (es := es) nl12.2 (topB z es + 1).toNat 0
    have p30 : (12 : Int) ^ (topB z es + 1).toNat ≤ 12 ^ 30 := pow_le12 (by omega)
    have c0 : 0 ≤ cntO z ns es := cb0.1
    have c30 : cntO z ns es ≤ 12 ^ 30 := Int.le_trans cb0.2 p30
    have b34 : (12 : Int) ^ 30 * 12 ^ 4 ≤ 12 ^ 201 := by decide +kernel
    have b4 : (12 : Int) ^ 4 ≤ 12 ^ 201 := by decide +kernel
    have nsp : ∀ j : Nat, j ≤ 4 → 0 ≤ (ns.length : Int) ^ j ∧ (ns.length : Int) ^ j ≤ 12 ^ 4 := fun j hj => powl_le (by omega) (by omega) hj
    have mulb : ∀ j : Nat, j ≤ 4 → 0 ≤ cntO z ns es * (ns.length : Int) ^ j ∧ cntO z ns es * (ns.length : Int) ^ j ≤ 12 ^ 30 * 12 ^ 4 := fun j hj => ⟨Int.mul_nonneg c0 (nsp j hj).1, Int.mul_le_mul c30 (nsp j hj).2 (nsp j hj).1 (by decide +kernel)⟩
    have gR : ∀ j : Nat, goodR (List.replicate j ns) := fun j o ho => by
      rw [List.eq_of_mem_replicate ho]
      exact ⟨hns, hw.cr.nd⟩
    have vR : ∀ j : Nat, j ≤ m → validR (List.replicate j ns) (xs.take j).reverse := fun j hj => valid_rep (by rw [List.length_reverse, List.length_take]; omega) fun x hx => xin x (List.mem_of_mem_take (List.mem_reverse.mp hx))
    refine cut_seq (fun σ H' => σ = [some (.ref fa), some (.ref bk), some (.int (cntO z ns es)), some (.ref c), some (.int (m : Int)), some (.ref s), some (.ref lo), some (.int (cntO z ns es)), some (.ref fr), some (.int 0), none, none, none, none, none, none] ∧ H' = H4) (fun N hN => ?_) ?_
    · walk_at "rd"
      exact hN _ _ ⟨rfl, rfl⟩
    rintro σ5 H5 ⟨rfl, rfl⟩
    refine cut_seq (fun σ H' => ∃ t10, σ = [some (.ref fa), some (.ref bk), some (.int (cntO z ns es)), some (.ref c), some (.int (m : Int)), some (.ref s), some (.ref lo), some (.int (cntO z ns es * (ns.length : Int) ^ m)), some (.ref fr), some (.int (idxR (List.replicate m ns) xs.reverse)), t10, none, none, none, none, none] ∧ H' = H5) (fun N hN => ?_) ?_
    · walk_at "rd"
      refine ⟨⟨_, SqL.of hfr⟩, loop_list (xs.map V.str) (fun j σ' H' => (∃ t10, σ' = [some (.ref fa), some (.ref bk), some (.int (cntO z ns es)), some (.ref c), some (.int (m : Int)), some (.ref s), some (.ref lo), some (.int (cntO z ns es * (ns.length : Int) ^ j)), some (.ref fr), some (.int (idxR (List.replicate j ns) (xs.take j).reverse)), t10, none, none, none, none, none]) ∧ H' = H5) ⟨⟨_, by rw [Int.pow_zero, Int.mul_one]; rfl⟩, rfl⟩ (fun j σ' H' _ k => by rw [k.2]; exact SqL.of hfr) ?_ ?_⟩
      · rintro j x σ' H' hj' ⟨⟨t10, rfl⟩, rfl⟩
        rw [List.getElem?_map] at hj'
        obtain ⟨x, hx, rfl⟩ := Option.map_eq_some_iff.mp hj'
        have hjl := (List.getElem?_eq_some_iff.mp hx).1
        have hin := xin x (List.mem_of_getElem? hx)
        have ib := idx_bd (gR j) (vR j (by omega))
        rw [lenP_rep] at ib
        have nb := nsp j (by omega)
        have mb := mulb j (by omega)
        simp only [gName, List.set_cons_succ, List.set_cons_zero]
        walk_at "rd"
        refine ⟨_, .inl (CrewAt.sq hc4), mul12 mb.1 (by omega) (by omega) (by rw [List.length_map]; omega), _, .inl (CrewAt.sq hc4), mul12 ib.1 (by omega) (by omega) (by rw [List.length_map]; omega), .inl ⟨rfl, _, CrewAt.sq hc4⟩, c, _, .str x, ns.idxOf x, .str x, rfl, rfl, CrewAt.sq hc4, rfl, NbF.flat_strs _, by rw [List.getElem?_map, at_idx hin]; rfl, by simp [eqV], fun i' z' hi' hz' => ?_, ?_⟩
        · rw [List.getElem?_map] at hz'
          obtain ⟨y, hy, rfl⟩ := Option.map_eq_some_iff.mp hz'
          have := idx_min hi' hy
          simpa [eqV] using this
        refine ⟨_, rfl, ⟨by rw [List.length_map, Int.pow_succ, Int.mul_assoc], ?_, _, rfl⟩, rfl⟩
        rw [List.length_map, List.take_add_one, hx, List.reverse_append]
        rfl
      · rintro σ' H' ⟨⟨t10, rfl⟩, rfl⟩
        rw [List.length_map, xl, List.take_of_length_le (by omega)]
        exact hN _ _ ⟨_, rfl, rfl⟩
    rintro σ6 H6 ⟨t10, rfl, rfl⟩
    have hlo4 := hlo.stp E13.fd e4.st
    have hb4 := ((((hb.stp hj.fd e1.st).same e2).same e3).stp E13.fd e4.st)
    have lenM : cntO z ns (later z m es) = cntO z ns es * (ns.length : Int) ^ m := by
      rw [← lenP_rows, hrM, List.reverse_append, lenP_app, List.reverse_replicate, lenP_rep, lenP_rows]
    have tM200 : topB z (later z m es) ≤ 200 := by omega
    have cpos := cnt_pos hz1 pos ho
    have nb := nsp m m4
    have nb1 : 1 ≤ (ns.length : Int) ^ m := Int.pow_pos (by omega)
    have vx : validR (List.replicate m ns) xs.reverse := valid_rep (by rw [List.length_reverse, xl]) fun x hx => xin x (List.mem_reverse.mp hx)
    have ib := idx_bd (gR m) vx
    rw [lenP_rep] at ib
    have cp : CPow 10 50 := ⟨by decide, by decide, by decide⟩
    walk_at "rd"
    refine ⟨lo, false, z, ns, later z m es, rfl, hlo4, tM200, hoM, fun H7 e7 => ?_⟩
    rw [lenM]
    refine ⟨rfl, _, rfl, ifN (by simp) ⟨cp, _, _, ⟨rfl, rfl⟩, ?_⟩⟩
    have mn : ∀ i j : Int, (if j < i then j else i) = min i j := fun i j => by split <;> omega
    rw [mn]
    have E7 := E14.same e7
    have t50 : (1 : Int) ≤ 10 ^ Int.toNat 50 := by decide +kernel
    have t50b : (10 : Int) ^ Int.toNat 50 ≤ 10 ^ 200 := by decide +kernel
    refine ⟨fa, _, k + 5, rfl, (E7.mono (by decide)).jr k hj, by omega, by omega, by omega, fun sp H8 sp0 sp1 e8 => ?_⟩
    have E8 := E7.trans e8
    have hfr8 := e8.kp _ _ nfr (e7 _ _ hfr)
    have nfr8 := nfr
    refine ⟨bk, b, z, ns, es, sp, rfl, ((hb4.same e7).stp E7.fd e8.st), by omega, ho, sp0, by omega, fun a H9 ha0 e9 ha => ⟨fr, a, _, _, rfl, rfl, e9 _ _ hfr8, ha, sz_le ?_, fun l hl' => ?_⟩⟩
    · have := nthR_len (rowsO z ns es).reverse sp
      rw [List.length_map, List.length_map]
      unfold nthO
      rw [List.length_reverse, this, List.length_reverse, rowsO_len]
      omega
    rw [← List.map_append]
    have k10 := Same.new (o := .lst ((xs ++ nthO z ns es sp).map V.str)) (Same.refl H9) hl'
    have vt : validR (rowsO z ns (later z m es)).reverse (xs ++ nthO z ns es sp).reverse := by
      rw [hrM, List.reverse_append, List.reverse_append, List.reverse_replicate]
      unfold nthO
      rw [List.reverse_reverse]
      exact valid_app (nthR_valid sp hg) vx
    have it : idxR (rowsO z ns (later z m es)).reverse (xs ++ nthO z ns es sp).reverse = idxR (List.replicate m ns) xs.reverse * cntO z ns es + sp := by
      rw [hrM, List.reverse_append, List.reverse_append, List.reverse_replicate]
      unfold nthO
      rw [List.reverse_reverse, idx_app (by rw [nthR_len]), lenP_rows, idx_nth hg sp0 (by rw [lenP_rows]; omega)]
    have hlo9 := ((hlo4.same e7).stp E7.fd e8.st).same (e9.trans k10)
    refine ⟨mulW_ok ib.1 (Int.le_trans (b := 12 ^ 4) (by omega) (by decide +kernel)) c0 (Int.le_trans c30 (by decide +kernel)), sp, rfl, lo, false, z, ns, later z m es, l, _, rfl, hlo9, tM200, hoM, upd_same, vt, fun H11 e11 => ?_⟩
    unfold idxO
    rw [it]
    refine ⟨rfl, _, rfl, ifN (by simp) ⟨cp, ite2 (fun _ => ?_) (fun hle => ?_)⟩⟩
    · exact q _ (((E8.same (e9.trans k10)).same e11).mono (by decide))
    have ibt := idx_bd hgM vt
    rw [it, lenP_rows] at ibt
    refine ⟨lo, false, z, ns, later z m es, _, rfl, hlo9.same e11, tM200, hoM, ibt.1, ibt.2, fun a2 H12 _ e12 h12 => ?_⟩
    have hnt : nthO z ns (later z m es) (idxR (List.replicate m ns) xs.reverse * cntO z ns es + sp) = xs ++ nthO z ns es sp := by
      unfold nthO
      rw [← it, nth_idx hgM vt, List.reverse_reverse]
      rfl
    rw [hnt] at h12
    have sub : ∀ x ∈ xs ++ nthO z ns es sp, x ∈ ns := fun x hx => by
      rcases List.mem_append.mp hx with h | h
      · exact xin x h
      · unfold nthO at h
        obtain ⟨i, hi⟩ := List.mem_iff_getElem?.mp (List.mem_reverse.mp h)
        have hv := nthR_valid sp hg
        have hil := (List.getElem?_eq_some_iff.mp hi).1
        rw [valid_len hv] at hil
        have hm := valid_get hv (List.getElem?_eq_getElem hil) hi
        obtain ⟨q', _, hq'⟩ := List.mem_map.mp (List.mem_reverse.mp (List.getElem_mem hil))
        rw [← hq'] at hm
        exact (List.mem_filter.mp hm).1
    have sh := shaped_strs hw.cr sub
    refine ⟨_, _, .lst (SqL.of h12) (strs_dp _), .lst (SqL.of ((e11.trans e12) _ _ upd_same)) (strs_dp _), sh, sh, ?_⟩
    rw [lay_shaped sh]
    exact q _ (((E8.same (e9.trans k10)).same (e11.trans e12)).mono (by decide))
theorem ok_law_right {f : Addr} {fd : FuncData} (F : d_law_right.Is K f fd) (T : Txt K mg)
    (c_mk_Log : C8.Mak P w K mg base 5 "Log" (He.ga K "Log") (sp_Log_init K) [])
    (c_count_lists : C8.Cal P w K mg base 14 "count_lists" (sp_count_lists K) [])
    (c_Log_last_block : C8.CalAt P w K mg base 1 (d_Log_last_block.way K) (sp_Log_last_block K))
    (c_mk_LosingLog : C8.Mak P w K mg base 5 "LosingLog" (He.ga K "LosingLog") (sp_Log_init K) [])
    (c_list_index : C8.Cal P w K mg base 14 "list_index" (sp_list_index K) [])
    (c_nth_list : C8.Cal P w K mg base 14 "nth_list" (sp_nth_list K) [])
    (c_law_tap : C8.Cal P w K mg base 1 "_law_tap" (sp_law_tap K) [])
    (c_law_later_right : C8.Cal P w K mg base 15 "_law_later_right" (sp_law_later_right K) []) :
    FnOk P w K mg base CX0 16 f fd ["jar", "size_here", "names_here", "entries_here"] (sp_law_right K) := by
  refine F.ok sc_law_right (fun vs H Q E h => ?_) (fun cdv A outer s H vs Q E hr h => ?_)
  · obtain ⟨fa, c, s', z, ns, es, tks, fr, k, rfl, hj, hk, hw, hc, hs, T0, hn, ht, n4, hzed, hl8, q⟩ := h
    rfl
  · obtain ⟨fa, c, s', z, ns, es, tks, fr, k, rfl, hj, hk, hw, hc, hs, T0, hn, ht, n4, hzed, hl8, q⟩ := h
    refine ⟨_, PSs.nox (pss_cons (ps_set (i := 4) sc_law_right.nd rfl (Or.inl rfl) (C8.pe_mk c_mk_Log hr (by decide) (by rfl) (pa_cons (pv 1) (pa_cons (pv 2) (pa_cons (pv 3) pa_nil)))))
        (pss_cons (ps_par (i := 5) (j := 6) (by rfl) sc_law_right.nd rfl rfl (by decide) rfl rfl (pa_cons (C8.pe_c c_count_lists hr (by decide) (by rfl) (pa_cons (pv 4) pa_nil)) (pa_cons (pe_mt20 T.m_Log_last_block c_Log_last_block hr (by decide) (pv 4)) pa_nil)) (by rfl))
        (pss_cons (ps_if (PW.pt (pw_or (pt_cmpR op_ne (C8.pe_c c_count_lists hr (by decide) (by rfl) (pa_cons (C8.pe_mk c_mk_LosingLog hr (by decide) (by rfl) (pa_cons (pv 1) (pa_cons (pv 2) (pa_cons (pv 3) pa_nil)))) pa_nil)) (pv 5) (nomark _)) (pw_or1 (pt_cmpR op_lt (pv 5) pe_int (nomark _)))))
          (pss_one (ps_ret pe_bl))
          pss_nil)
        (pss_cons (ps_if (pt_cmpR op_ne (C8.pe_c c_count_lists hr (by decide) (by rfl) (pa_cons (C8.pe_mk c_mk_Log hr (by decide) (by rfl) (pa_cons (pv 1) (pa_cons (pe_revL (pv 2)) (pa_cons (pv 3) pa_nil)))) pa_nil)) (pv 5) (nomark _))
          (pss_one (ps_ret pe_bl))
          pss_nil)
        (pss_cons (ps_set (i := 7) sc_law_right.nd rfl (Or.inl rfl) (C8.pe_mk c_mk_Log hr (by decide) (by rfl) (pa_cons (pv 1) (pa_cons (pe_op op_cat (pv 2) (pe_lst (pa_cons pe_str pa_nil))) (pa_cons (pv 3) pa_nil)))))
        (pss_cons (ps_if (PW.pt (pw_or (pt_cmpR op_lt (C8.pe_c c_count_lists hr (by decide) (by rfl) (pa_cons (pv 7) pa_nil)) (pv 5) (nomark _)) (pw_or1 (pt_cmpR op_lt (C8.pe_c c_list_index hr (by decide) (by rfl) (pa_cons (pv 7) (pa_cons (C8.pe_c c_nth_list hr (by decide) (by rfl) (pa_cons (pv 4) (pa_cons pe_int pa_nil))) pa_nil))) pe_int (nomark _)))))
          (pss_one (ps_ret pe_bl))
          pss_nil)
        (pss_cons (ps_set (i := 8) sc_law_right.nd rfl (Or.inl rfl) (C8.pe_mk c_mk_Log hr (by decide) (by rfl) (pa_cons (pv 1) (pa_cons (pe_revL (pv 2)) (pa_cons (pv 3) pa_nil)))))
        (pss_cons (ps_if (pt_cmpR (op_neD hr.units) (C8.pe_c c_nth_list hr (by decide) (by rfl) (pa_cons (pv 8) (pa_cons pe_int pa_nil))) (C8.pe_c c_nth_list hr (by decide) (by rfl) (pa_cons (pv 4) (pa_cons (pe_op op_sub (pv 5) pe_int) pa_nil))) (nomark _))
          (pss_one (ps_ret pe_bl))
          pss_nil)
        (pss_cons (ps_if (pt_cmpR (op_neD hr.units) (pv 3) (pe_lst pa_nil) (nomark _))
          (pss_cons (ps_set (i := 9) sc_law_right.nd rfl (Or.inl rfl) (C8.pe_c c_law_tap hr (by decide) (by rfl) (pa_cons (pv 0) (pa_cons (pe_callB call_len_seq (by rfl) T.n_len (by decide +kernel) (pa_cons (pv 3) pa_nil)) pa_nil))))
          (pss_cons (ps_set (i := 10) sc_law_right.nd rfl (Or.inl rfl) (C8.pe_mk c_mk_Log hr (by decide) (by rfl) (pa_cons (pv 1) (pa_cons (pv 2) (pa_cons (pe_op op_cat (pe_slice sl_list (pv 3) po_none (po_some (pv 9))) (pe_slice sl_list (pv 3) (po_some (pe_op op_add (pv 9) pe_int)) po_none)) pa_nil)))))
          (pss_cons (ps_if (PW.pt (pw_and (pt_cmpR op_eq (pe_mt20 T.m_Log_last_block c_Log_last_block hr (by decide) (pv 10)) (pv 6) (nomark _)) (pw_and1 (pt_cmpR op_lt (C8.pe_c c_count_lists hr (by decide) (by rfl) (pa_cons (pv 10) pa_nil)) (pv 5) (nomark _)))))
            (pss_one (ps_ret pe_bl))
            pss_nil)
          (pss_one (ps_if (pt_not (pt_truth (C8.pe_c c_law_later_right hr (by decide) (by rfl) (pa_cons (pv 0) (pa_cons (pv 4) (pa_cons (pv 5) pa_nil)))) (by intro _; rfl)))
            (pss_one (ps_ret pe_bl))
            pss_nil)))))
          pss_nil)
        (pss_one (ps_ret pe_bl))))))))))), ?_⟩
    have pos := wf_pos hw
    have hz1 := hw.sz.1
    have ho := T0.obs (ns := ns) hn
    have P := ((poss_iff hz1 pos).mp ho).2
    have hg := good_rows hz1 pos ho hw.cr.nd
    have cpos := cnt_pos hz1 pos ho
    have t200 : topB z es ≤ 200 := by omega
    have hcr := hw.cr.few
    refine cut_seq (fun σ H' => ∃ bk, σ = [some (.ref fa), some (.int z), some (.ref c), some (.ref s'), some (.ref bk), none, none, none, none, none, none] ∧ LogAt K H' bk false z ns es ∧ Same H H') (fun N hN => ?_) ?_
    · walk_at "rd"
      exact mk_at (b := false) hw hc hs fun x HX hx eX hX => hN _ _ ⟨x, rfl, hX, eX⟩
    rintro σ1 H1 ⟨bk, rfl, hbk, e1⟩
    refine cut_seq (fun σ H' => σ = [some (.ref fa), some (.int z), some (.ref c), some (.ref s'), some (.ref bk), some (.int (cntO z ns es)), some (.int (topB z es)), none, none, none, none] ∧ Same H1 H') (fun N hN => ?_) ?_
    · walk_at "rd"
      refine ⟨bk, false, z, ns, es, rfl, hbk, t200, ho, fun H2 e2 => ?_⟩
      have hb2 := hbk.same e2
      obtain ⟨dx, ls, le, hb1, _⟩ := id hb2
      exact ⟨false, dx, _, hb1, fsL_no (by decide +kernel) (by decide +kernel) (by decide +kernel) _ _ _, bk, false, z, ns, es, rfl, hb2, fun H3 e3 => ⟨_, _, ⟨rfl, rfl⟩, hN _ _ ⟨rfl, e2.trans e3⟩⟩⟩
    rintro σ2 H2 ⟨rfl, e2''⟩
    have hbk2 := hbk.same e2''
    have e2' := e1.trans e2''
    refine cut_seq (fun σ H' => σ = [some (.ref fa), some (.int z), some (.ref c), some (.ref s'), some (.ref bk), some (.int (cntO z ns es)), some (.int (topB z es)), none, none, none, none] ∧ Same H2 H') (fun N hN => ?_) ?_
    · walk_at "rd"
      exact mk_at (b := true) hw (hc.same e2') (hs.same e2') fun x HX hx eX hX => ⟨x, true, z, ns, es, rfl, hX, t200, ho, fun H3 e3 => ⟨rfl, _, rfl, ifN (by simp) (ifN (by omega) (hN _ _ ⟨rfl, eX.trans e3⟩))⟩⟩
    rintro σ3 H3 ⟨rfl, e3⟩
    have hoR := poss_rev hz1 pos ho
    have hwR := wf_names hw (crew_rev hw.cr) fun s hs => List.mem_reverse.mpr hs
    have E3 := e2'.trans e3
    refine cut_seq (fun σ H' => σ = [some (.ref fa), some (.int z), some (.ref c), some (.ref s'), some (.ref bk), some (.int (cntO z ns es)), some (.int (topB z es)), none, none, none, none] ∧ Same H3 H') (fun N hN => ?_) ?_
    · walk_at "rd"
      refine ⟨_, CrewAt.sq (hc.same E3), fun p hp => ?_⟩
      rw [← List.map_reverse]
      have kp := Same.new (o := .lst (ns.reverse.map V.str)) (Same.refl H3) hp
      refine mk_at (b := false) hwR upd_same ((hs.same E3).same kp) fun x HX hx eX hX => ⟨x, false, z, ns.reverse, es, rfl, hX, t200, hoR, fun H4 e4 => ⟨rfl, _, rfl, ?_⟩⟩
      rw [cnt_rev]
      exact ifN (by simp) (hN _ _ ⟨rfl, (kp.trans eX).trans e4⟩)
    rintro σ4 H4 ⟨rfl, e4⟩
    have crZ := crew_zed hw.cr hzed (by omega)
    have hwZ := wf_names hw crZ fun s hs => List.mem_append_left _ hs
    have hoZ := (poss_more hz1 pos (fun s hs => List.mem_append_left [zedS] hs) ho).1
    have hgZ := good_rows hz1 pos hoZ crZ.nd
    have E4 := E3.trans e4
    refine cut_seq (fun σ H' => ∃ mo, σ = [some (.ref fa), some (.int z), some (.ref c), some (.ref s'), some (.ref bk), some (.int (cntO z ns es)), some (.int (topB z es)), some (.ref mo), none, none, none] ∧ LogAt K H' mo false z (ns ++ [zedS]) es ∧ Same H4 H') (fun N hN => ?_) ?_
    · walk_at "rd"
      refine ⟨sz_le (by decide), fun p hp => ?_⟩
      have kp := Same.new (o := .lst [V.str (Str.ofString "zed")]) (Same.refl H4) hp
      refine ⟨c, p, _, _, rfl, rfl, (hc.same E4).same kp, upd_same, sz_le (by rw [List.length_map]; simp; omega), fun l hl => ?_⟩
      have kl := Same.new (o := .lst (ns.map V.str ++ [V.str (Str.ofString "zed")])) kp hl
      exact mk_at (b := false) hwZ (by show _ = some (HO.lst ((ns ++ [zedS]).map V.str)); rw [List.map_append]; exact upd_same) ((hs.same E4).same kl) fun x HX hx eX hX => hN _ _ ⟨x, rfl, hX, kl.trans eX⟩
    rintro σ5 H5 ⟨mo, rfl, hmo, e5⟩
    have hbk5 := ((hbk2.same e3).same e4).same e5
    refine cut_seq (fun σ H' => σ = [some (.ref fa), some (.int z), some (.ref c), some (.ref s'), some (.ref bk), some (.int (cntO z ns es)), some (.int (topB z es)), some (.ref mo), none, none, none] ∧ Same H5 H') (fun N hN => ?_) ?_
    · walk_at "rd"
      refine ⟨mo, false, z, _, es, rfl, hmo, t200, hoZ, fun H6 e6 => ⟨_, rfl, ifN (by have := cnt_more hz1 pos zedS ho; omega) ⟨bk, false, z, ns, es, 0, rfl, hbk5.same e6, t200, ho, Int.le_refl _, by omega, fun a H7 _ e7 ha => ⟨mo, false, z, _, es, a, _, rfl, (hmo.same e6).same e7, t200, hoZ, ha, validO_sub (fun q q0 q1 => own_more hz1 pos (fun s hs => List.mem_append_left [zedS] hs) ho q0 q1) (validO_nth hg 0), fun H8 e8 => ⟨_, rfl, ifN ?_ (hN _ _ ⟨rfl, (e6.trans e7).trans e8⟩)⟩⟩⟩⟩⟩
      have := idx_bd hgZ (validO_sub (fun q q0 q1 => own_more hz1 pos (fun s hs => List.mem_append_left [zedS] hs) ho q0 q1) (validO_nth hg 0))
      unfold idxO
      omega
    rintro σ6 H6 ⟨rfl, e6⟩
    have E6 := (E4.trans e5).trans e6
    refine cut_seq (fun σ H' => ∃ tu, σ = [some (.ref fa), some (.int z), some (.ref c), some (.ref s'), some (.ref bk), some (.int (cntO z ns es)), some (.int (topB z es)), some (.ref mo), some (.ref tu), none, none] ∧ LogAt K H' tu false z ns.reverse es ∧ Same H6 H') (fun N hN => ?_) ?_
    · walk_at "rd"
      refine ⟨_, CrewAt.sq (hc.same E6), fun p hp => ?_⟩
      rw [← List.map_reverse]
      have kp := Same.new (o := .lst (ns.reverse.map V.str)) (Same.refl H6) hp
      exact mk_at (b := false) hwR upd_same ((hs.same E6).same kp) fun x HX hx eX hX => hN _ _ ⟨x, rfl, hX, kp.trans eX⟩
    rintro σ7 H7 ⟨tu, rfl, htu, e7⟩
    have hbk7 := (hbk5.same e6).same e7
    refine cut_seq (fun σ H' => σ = [some (.ref fa), some (.int z), some (.ref c), some (.ref s'), some (.ref bk), some (.int (cntO z ns es)), some (.int (topB z es)), some (.ref mo), some (.ref tu), none, none] ∧ Same H7 H') (fun N hN => ?_) ?_
    · walk_at "rd"
      refine ⟨tu, false, z, _, es, 0, rfl, htu, t200, hoR, Int.le_refl _, by rw [cnt_rev]; omega, fun a H8 _ e8 ha => ⟨bk, false, z, ns, es, _, rfl, hbk7.same e8, t200, ho, by omega, by omega, fun a2 H9 _ e9 ha2 => ?_⟩⟩
      rw [nth_rev hg] at ha
      have sh := shaped_strs hw.cr (nthO_in hg (cntO z ns es - 1))
      refine ⟨_, _, .lst (SqL.of (e9 _ _ ha)) (strs_dp _), .lst (SqL.of ha2) (strs_dp _), sh, sh, _, rfl, ifN (by rw [lay_shaped sh]; decide) (hN _ _ ⟨rfl, e8.trans e9⟩)⟩
    rintro σ8 H8 ⟨rfl, e8⟩
    have E8 := (E6.trans e7).trans e8
    have hbk8 := hbk7.same e8
    walk_at "rd"
    refine ⟨Nat.zero_le _, fun p hp => ne_nil ((hs.same E8).same (Same.new (Same.refl _) hp)) upd_same hw.cr hw.en ⟨_, rfl, ?_⟩⟩
    have kp := Same.new (o := .lst []) E8 hp
    have hbk9 := hbk8.same (Same.new (o := .lst []) (Same.refl H8) hp)
    generalize upd H8 p (.lst []) = H9 at kp hbk9 ⊢
    by_cases hne : es = []
    · exact ifN (by simp [hne]) (q _ ((StJ.of kp hj.fd).mono (by decide)))
    refine ifP (decide_eq_true hne) ?_
    have hs9 := hs.same kp
    obtain ⟨ts, hts, hen⟩ := id hs9
    have tl := Ents.len hen
    have few := hw.en.few
    have el := List.length_pos_iff.mpr hne
    have S9 : StJ fa 0 H H9 := StJ.of kp hj.fd
    refine ⟨_, .inl (SqL.of hts), fa, _, k, rfl, hj.same kp, by omega, by rw [List.length_map]; omega, Int.le_trans (b := 200) (by rw [List.length_map]; omega) (by decide +kernel), fun r H10 r0 r1 e10 => ?_⟩
    rw [List.length_map, tl] at r1
    obtain ⟨i, rfl⟩ : ∃ i : Nat, r = (i : Int) := ⟨r.toNat, by omega⟩
    have hi : i < es.length := by omega
    have E10 := S9.trans e10
    have hs10 := hs9.stp S9.fd e10.st
    have hc10 := (hc.same kp).stp S9.fd e10.st
    have hbk10 := hbk9.stp S9.fd e10.st
    obtain ⟨ts, hts, hen⟩ := id hs10
    have tl := Ents.len hen
    refine ⟨i, rfl, s', _, rfl, SqL.of hts, fun l1 hl1 => ⟨i, rfl, s', ts.map V.ref, rfl, ?_⟩⟩
    rw [cut_to', ← List.map_take]
    have k1 := Same.new (o := .lst ((ts.take i).map V.ref)) (Same.refl H10) hl1
    refine ⟨SqL.of (k1 _ _ hts), fun l2 hl2 => ?_⟩
    rw [show (i : Int) + 1 = ((i + 1 : Nat) : Int) by omega, cut_from, ← List.map_drop]
    have k2 := Same.new (o := .lst ((ts.drop (i + 1)).map V.ref)) k1 hl2
    refine ⟨l1, l2, _, _, rfl, rfl, (Same.new (Same.refl _) hl2) _ _ upd_same, upd_same, sz_le (by rw [List.length_map, List.length_map, List.length_take, List.length_drop]; omega), fun l3 hl3 => ?_⟩
    rw [← List.map_append]
    have k3 := Same.new (o := .lst ((ts.take i ++ ts.drop (i + 1)).map V.ref)) k2 hl3
    have hdl := dropF_len (n := es.length) hi
    have hkd := keep_drop es i hi
    have hkl : (NbQ.keep (dropF es.length i) es).length ≤ 200 := by
      rw [← keep_len hdl (Nat.le_refl _)]
      unfold NbQ.cnt
      exact Nat.le_trans (List.length_filter_le _ _) (by rw [List.length_take]; omega)
    have posL : ∀ e ∈ NbQ.keep (dropF es.length i) es, 0 ≤ e.2 := fun e he => pos e (keep_sub he)
    have hwL : WF z ns (NbQ.keep (dropF es.length i) es) := ⟨hw.sz, hw.cr, ens_of hkl fun e he => ⟨wf_in hw e (keep_sub he), posL e he⟩⟩
    have hoL : obsD z ns (NbQ.keep (dropF es.length i) es) = .none := (T0.keep hdl).obs fun t ht => by
      obtain ⟨t', ht', rfl⟩ := List.mem_map.mp ht
      exact hn t' ht'
    have htL := top_keep (fl := dropF es.length i) hz1 pos
    have henL : EntsAt (upd (upd (upd H10 l1 (.lst ((ts.take i).map V.ref))) l2 (.lst ((ts.drop (i + 1)).map V.ref))) l3 (.lst ((ts.take i ++ ts.drop (i + 1)).map V.ref))) l3 (NbQ.keep (dropF es.length i) es) := by
      rw [hkd]
      exact ⟨_, upd_same, NbS.Ents.imp (fun t xs h => k3 _ _ h) (NbS.Ents.cat (hen.take i) (hen.drop (i + 1)))⟩
    refine mk_at (b := false) hwL (hc10.same k3) henL fun x HX hx eX hX => ?_
    obtain ⟨dx, ls, le, hb1, _⟩ := id hX
    have fin : ∀ HY, Same HX HY → sp_law_later_right K [.ref fa, .ref bk, .int (cntO z ns es)] HY (fun x H' => ∃ k, TruV K x H' k ∧ if k = false then Q (V.bl false) H' else Q (V.bl true) H') C8.E0 := fun HY eY => by
      have EY := k3.trans (eX.trans eY)
      exact ⟨fa, bk, false, z, ns, es, k + 1, rfl, (((E10.mono (by decide)).jr k hj).same EY), by omega, hbk10.same EY, ho, ht, hne, hl8, fun H' e' => ⟨_, rfl, ifN (by decide) (q _ (((E10.same EY).trans e').mono (by decide)))⟩⟩
    refine ⟨false, dx, _, hb1, fsL_no (by decide +kernel) (by decide +kernel) (by decide +kernel) _ _ _, x, false, z, ns, _, rfl, hX, fun H12 e12 => ⟨rfl, _, rfl, ite2 (fun h => ?_) (fun h => fin _ e12)⟩⟩
    have htE : topB z (NbQ.keep (dropF es.length i) es) = topB z es := by simpa using h
    refine ⟨x, false, z, ns, _, rfl, hX.same e12, by omega, hoL, fun H13 e13 => ⟨_, rfl, ifN (by have := cnt_keep (ns := ns) hdl P htE; omega) (fin _ (e12.trans e13))⟩⟩
theorem ok_law {f : Addr} {fd : FuncData} (F : d_law.Is K f fd) (T : Txt K mg)
    (c_law_jar : C8.Cal P w K mg base 1 "_law_jar" (sp_law_jar K) [])
    (c_law_scene : C8.Cal P w K mg base 3 "_law_scene" (sp_law_scene K) [])
    (c_law_right : C8.Cal P w K mg base 16 "_law_right" (sp_law_right K) []) :
    NbR.FnG P w K mg base 17 f fd ["script"] (sp_law K) := by
  refine NbR.fnG_of F sc_law (fun vs H Q E h => ?_) (fun cdv A outer s H vs Q E hg0 hr h => ?_)
  · obtain ⟨a, xs, rfl, hs, hl, q⟩ := h
    rfl
  · obtain ⟨a, xs, rfl, hs, hl, q⟩ := h
    refine ⟨_, PSs.nox (pss_cons (ps_for PassesOwn.never rfl (pi_range1 (by rfl) T.n_range (pa_cons (pe_callB (call_max2 rfl) (by rfl) T.n_max (by decide +kernel) (pa_cons pe_int (pa_cons (pe_callB (call_min2 rfl) (by rfl) T.n_min (by decide +kernel) (pa_cons pe_int (pa_cons (pe_callB call_len_seq (by rfl) T.n_len (by decide +kernel) (pa_cons (pv 0) pa_nil)) pa_nil))) pa_nil))) pa_nil)) (pg_name (i := 1) sc_law.nd rfl (Or.inl rfl))
          (pss_cons (ps_set (i := 2) sc_law.nd rfl (Or.inl rfl) (C8.pe_c c_law_jar hr (by decide) (by rfl) (pa_cons (pv 0) (pa_cons (pv 1) pa_nil))))
          (pss_one (ps_for PassesOwn.never rfl (pi_list (pe_slice sl_list (pe_lst (pa_cons (pe_tup (pa_cons pe_int (pa_cons pe_int (pa_cons pe_int pa_nil)))) (pa_cons (pe_tup (pa_cons pe_int (pa_cons pe_int (pa_cons pe_int pa_nil)))) pa_nil))) po_none (po_some (pe_op op_add pe_int (pe_callTy call_int1 (by rfl) T.n_int (by decide +kernel) (pa_cons (pe_cmpR op_eq (pv 1) pe_int (nomark _)) pa_nil)))))) (pg_tup (by rfl) (pgs_cons (pg_name (i := 3) sc_law.nd rfl (Or.inl rfl)) (pgs_cons (pg_name (i := 4) sc_law.nd rfl (Or.inl rfl)) (pgs_cons (pg_name (i := 5) sc_law.nd rfl (Or.inl rfl)) pgs_nil))))
            (pss_cons (ps_asg (C8.pe_c c_law_scene hr (by decide) (by rfl) (pa_cons (pv 2) (pa_cons (pv 3) (pa_cons (pv 4) (pa_cons (pv 5) pa_nil))))) (pg_tup (by rfl) (pgs_cons (pg_name (i := 6) sc_law.nd rfl (Or.inr rfl)) (pgs_cons (pg_name (i := 7) sc_law.nd rfl (Or.inl rfl)) (pgs_cons (pg_name (i := 8) sc_law.nd rfl (Or.inl rfl)) pgs_nil)))))
            (pss_cons (ps_set (i := 9) sc_law.nd rfl (Or.inl rfl) (pe_callB (cr_max rfl) (by rfl) T.n_max (by decide +kernel) (pa_cons (pe_op op_cat (pe_lst (pa_cons (pe_un un_neg pe_int) pa_nil)) (pe_lc (own := [("name", 10), ("number", 11)]) (g := gTup K 2 (gCons (gName 10) (gCons (gName 11) gNil))) (tt := tYes) (by rfl) sc_law.nd (pi_list (pv 8)) (blkOk_by (N := ["script", "k", "jar", "most", "many", "jumps", "size_here", "names_here", "entries_here", "top", "name", "number"]) (sc := defScope s_law) (by decide +kernel)) (fun _ _ _ _ _ => (pg_tupK (K := K) rfl (by rfl) (pgs_cons (pg_name (i := 10) sc_law.nd rfl (Or.inl rfl)) (pgs_cons (pg_name (i := 11) sc_law.nd rfl (Or.inl rfl)) pgs_nil)))) (fun _ _ _ _ _ => pts_nil) (fun _ _ _ _ _ => (pe_op op_fdivW (pv 11) (pv 6))))) pa_nil)))
            (pss_one (ps_if (PW.pt (pw_and (pt_cmpR op_lt (pv 9) pe_int (nomark _)) (pw_and1 (pt_not (pt_val (C8.pe_c c_law_right hr (by decide) (by rfl) (pa_cons (pv 2) (pa_cons (pv 6) (pa_cons (pv 7) (pa_cons (pv 8) pa_nil))))))))))
              (pss_one (ps_ret pe_bl))
              pss_nil))))))))
        (pss_one (ps_ret pe_bl))), ?_⟩
    walk_at "rd"
    refine ⟨_, .inl hs, _, _, ⟨rfl, rfl⟩, _, _, ⟨rfl, rfl⟩, by split <;> omega, by split <;> (try split) <;> omega, loop_rng (fun i σ' H' => (∃ t1 t2 t3 t4 t5 t6 t7 t8 t9 t10 t11, σ' = [some (.ref a), t1, t2, t3, t4, t5, t6, t7, t8, t9, t10, t11]) ∧ Same H H') ⟨⟨_, _, _, _, _, _, _, _, _, _, _, rfl⟩, Same.refl _⟩ ?_ ?_⟩
    · rintro i σ' H' hi ⟨⟨t1, t2, t3, t4, t5, t6, t7, t8, t9, t10, t11, rfl⟩, e⟩
      simp only [gName, List.set_cons_succ, List.set_cons_zero]
      refine cut_seq (fun σ H2 => ∃ fa, σ = [some (.ref a), some (.int (i : Int)), some (.ref fa), t3, t4, t5, t6, t7, t8, t9, t10, t11] ∧ H' fa = none ∧ Jar 0 H2 fa ∧ Same H' H2) (fun N2 hN2 => ?_) ?_
      · walk_at "rd"
        exact ⟨a, xs, i, rfl, sqL_same hs e, hl, by omega, by omega, fun fa H2 hfa e2 hf => hN2 _ _ ⟨fa, rfl, hfa, hf, e2⟩⟩
      rintro σ2 H2 ⟨fa, rfl, hfa, hf, e2⟩
      walk_at "rd"
      refine ⟨sz_le (by decide), fun p hp => ⟨sz_le (by decide), fun p1 hp1 => ⟨sz_le (by decide), fun p3 hp3 => ⟨rfl, .inr ⟨_, rfl, p3, _, rfl, SqL.of upd_same, fun l hl => ⟨l, rfl, ⟨_, SqL.of upd_same⟩, ?_⟩⟩⟩⟩⟩⟩
      have s0 := Same.new (o := .tup [V.int 8, V.int 4, V.int 2]) (Same.refl H2) hp
      have s1 := Same.new (o := .tup [V.int 12, V.int 3, V.int 0]) (Same.refl _) hp1
      have s3 := Same.new (o := .lst [V.ref p, .ref p1]) (Same.refl _) hp3
      obtain ⟨us, hus, hsub, hul⟩ := cut_refs [p, p1] none (some (1 + if (decide (V.int (i : Int) = V.int 0)) = true then 1 else 0))
      simp only [List.map_cons, List.map_nil] at hus
      rw [hus]
      have s4 := Same.new (o := .lst (us.map V.ref)) (Same.refl _) hl
      have z := ((s0.trans s1).trans s3).trans s4
      have hall : ∀ u ∈ us, ∃ mo ma jm : Int, upd (upd (upd (upd H2 p (.tup [V.int 8, V.int 4, V.int 2])) p1 (.tup [V.int 12, V.int 3, V.int 0])) p3 (.lst [V.ref p, .ref p1])) l (.lst (us.map V.ref)) u = some (.tup [V.int mo, V.int ma, V.int jm]) ∧ 1 ≤ mo ∧ mo ≤ 60 ∧ 1 ≤ ma ∧ ma ≤ 4 ∧ 0 ≤ jm ∧ jm ≤ 2 := fun u hu => by
        have := hsub u hu
        simp only [List.mem_cons, List.not_mem_nil, or_false] at this
        rcases this with rfl | rfl
        · exact ⟨8, 4, 2, ((s1.trans s3).trans s4) _ _ upd_same, by decide, by decide, by decide, by decide, by decide, by decide⟩
        · exact ⟨12, 3, 0, (s3.trans s4) _ _ upd_same, by decide, by decide, by decide, by decide, by decide, by decide⟩
      have hlA : upd (upd (upd (upd H2 p (.tup [V.int 8, V.int 4, V.int 2])) p1 (.tup [V.int 12, V.int 3, V.int 0])) p3 (.lst [V.ref p, .ref p1])) l (.lst (us.map V.ref)) l = some (.lst (us.map V.ref)) := upd_same
      generalize upd (upd (upd (upd H2 p (.tup [V.int 8, V.int 4, V.int 2])) p1 (.tup [V.int 12, V.int 3, V.int 0])) p3 (.lst [V.ref p, .ref p1])) l (.lst (us.map V.ref)) = H3 at z hall hlA ⊢
      have j3 := hf.same z
      have nlf := ne_refs j3.fd hlA
      refine loop_list (us.map V.ref) (fun j σ' H4 => (∃ t3 t4 t5 t6 t7 t8 t9 t10 t11, σ' = [some (.ref a), some (.int (i : Int)), some (.ref fa), t3, t4, t5, t6, t7, t8, t9, t10, t11]) ∧ StJ fa (2020 * j) H3 H4) ⟨⟨_, _, _, _, _, _, _, _, _, rfl⟩, StJ.refl j3.fd⟩ (fun j σ' H4 _ k => SqL.of (k.2.kp _ _ nlf hlA)) ?_ ?_
      · rintro j x σ' H4 hj ⟨⟨t3, t4, t5, t6, t7, t8, t9, t10, t11, rfl⟩, e4⟩
        rw [List.getElem?_map] at hj
        obtain ⟨u, hu, rfl⟩ := Option.map_eq_some_iff.mp hj
        have hj3 : j < 2 := Nat.lt_of_lt_of_le (List.getElem?_eq_some_iff.mp hu).1 hul
        obtain ⟨mo, ma, jm, hu3, b1, b2, b3, b4, b5, b6⟩ := hall u (List.mem_of_getElem? hu)
        simp only [gTup, gCons, gNil, gName, List.set_cons_succ, List.set_cons_zero]
        refine ⟨u, _, rfl, SqT.of (e4.kp _ _ (ne_tup j3.fd hu3) hu3), rfl, _, _, rfl, _, _, rfl, _, _, rfl, rfl, ?_⟩
        refine cut_seq (fun σ H5 => ∃ z c s ns es tks fr, σ = [some (.ref a), some (.int (i : Int)), some (.ref fa), some (.int mo), some (.int ma), some (.int jm), some (.int z), some (.ref c), some (.ref s), t9, t10, t11] ∧ WF z ns es ∧ CrewAt H5 c ns ∧ EntsAt H5 s es ∧ Tale z es tks fr ∧ (∀ t ∈ tks, t.n ∈ ns) ∧ (∀ e ∈ es, e.2 < 10 ^ 80) ∧ (∀ n ∈ ns, n ≠ zedS) ∧ ns.length ≤ 4 ∧ StJ fa 2000 H4 H5) (fun N3 hN3 => ?_) ?_
        · walk_at "rd"
          exact ⟨fa, mo, ma, jm, 2020 * j, rfl, (e4.jr 0 j3).mono (by omega), by omega, b1, b2, b3, by omega, b5, Int.le_trans b6 (by decide +kernel), fun r z c s ns es tks fr H5 _ e5 hr hz hc hcr hma hse hlen hok T0 hn hl8 _ hzed => ⟨r, rfl, _, SqT.of hr, rfl, _, _, rfl, _, _, rfl, _, _, rfl, rfl, hN3 _ _ ⟨z, c, s, ns, es, tks, fr, rfl, ⟨hz, hcr, ens_of (by omega) hok⟩, hc, hse, T0, hn, hl8, hzed, by omega, e5⟩⟩⟩
        rintro σ5 H5 ⟨z, c, s, ns, es, tks, fr, rfl, hw, hc, hse, T0, hn, hl8, hzed, n4, e5⟩
        have E5 := e4.trans e5
        refine cut_seq (fun σ H6 => σ = [some (.ref a), some (.int (i : Int)), some (.ref fa), some (.int mo), some (.int ma), some (.int jm), some (.int z), some (.ref c), some (.ref s), some (.int (topB z es)), t10, t11] ∧ Same H5 H6) (fun N3 hN3 => ?_) ?_
        · walk_at "rd"
          have pos := wf_pos hw
          have hz1 := hw.sz.1
          have few := hw.en.few
          have cd : ∀ i, CDivW i z := fun i => div_ok (by have := hw.sz.1; omega) (Int.le_trans hw.sz.2 (by decide +kernel))
          obtain ⟨ts, hts, hen⟩ := id hse
          have tl := Ents.len hen
          refine ⟨sz_le (by decide), fun p hp => ?_⟩
          have k0 := Same.new (o := .lst [V.int (-1)]) (Same.refl H5) hp
          have hpA : upd H5 p (.lst [V.int (-1)]) p = some (.lst [V.int (-1)]) := upd_same
          generalize upd H5 p (.lst [V.int (-1)]) = H0 at k0 hpA ⊢
          refine ⟨⟨_, SqL.of (k0 _ _ hts)⟩, fun L hL => comp_list (ts.map V.ref) (fun i H' => Same H0 H' ∧ H' L = some (.lst (((es.take i).map fun e => e.2 / z).map V.int))) ⟨Same.new (Same.refl _) hL, upd_same⟩ (fun i H' _ k => SqL.of (k.1 _ _ (k0 _ _ hts))) ?_ ?_⟩
          · rintro i x H' hi ⟨e, f1⟩
            rw [List.getElem?_map] at hi
            obtain ⟨u, hu, rfl⟩ := Option.map_eq_some_iff.mp hi
            obtain ⟨en, he, hue⟩ := hen.get hu
            have hlt := (List.getElem?_eq_some_iff.mp he).1
            refine ⟨u, _, rfl, SqT.of (e _ _ (k0 _ _ hue)), rfl, _, _, rfl, _, _, rfl, rfl, rfl, ?_⟩
            walk_at "rd"
            refine ⟨cd _, _, f1, sz_lt (by rw [List.length_map, List.length_map, List.length_take]; omega), Nb.Same.mut e hL, ?_⟩
            rw [upd_same, List.take_add_one, he, List.map_append, List.map_append]
            rfl
          · rintro H' ⟨e, f1⟩
            rw [List.length_map, tl, List.take_length] at f1
            refine ⟨p, L, _, _, rfl, rfl, e _ _ hpA, f1, sz_le (by rw [List.length_map, List.length_map]; simp; omega), fun l hl => ⟨l, -1 :: es.map (fun e => e.2 / z), rfl, SqL.of upd_same, by simp, fun m hm hle => ?_⟩⟩
            have g := Same.new (o := .lst ([V.int (-1)] ++ (es.map fun e => e.2 / z).map V.int)) (k0.trans e) hl
            have hmt : m = topB z es := by
              rcases top_mem hz1 pos with ⟨h, h2⟩ | ⟨h, e, he, h2⟩
              · subst h
                rw [h2]
                simpa using hm
              · have h3 := hle (e.2 / z) (List.mem_cons_of_mem _ (List.mem_map.mpr ⟨e, he, rfl⟩))
                rcases List.mem_cons.mp hm with h4 | h4
                · omega
                · obtain ⟨e', he', h5⟩ := List.mem_map.mp h4
                  have h6 := topB_le (z := z) he'
                  omega
            rw [hmt]
            exact hN3 _ _ ⟨rfl, g⟩
        rintro σ6 H6 ⟨rfl, e6⟩
        have E6 := E5.same e6
        walk_at "rd"
        refine ite2 (fun ht => ⟨fa, c, s, z, ns, es, tks, fr, 2020 * j + 2000, rfl, (E6.jr 0 j3).mono (by omega), by omega, hw, hc.same e6, hse.same e6, T0, hn, ht, n4, hzed, hl8, fun H7 e7 => ⟨_, rfl, ifN (by decide) ⟨⟨_, rfl⟩, (E6.trans e7).mono (by omega)⟩⟩⟩) (fun _ => ⟨⟨_, rfl⟩, E6.mono (by omega)⟩)
      · rintro σ' H4 ⟨⟨t3, t4, t5, t6, t7, t8, t9, t10, t11, rfl⟩, e4⟩
        exact ⟨⟨_, _, _, _, _, _, _, _, _, _, _, rfl⟩, e.trans (Stp.out (e2.trans z) hfa e4.st)⟩
    · rintro σ' H' ⟨⟨t1, t2, t3, t4, t5, t6, t7, t8, t9, t10, t11, rfl⟩, e⟩
      walk_at "rd"
      exact q _
end

theorem txt_of {K : PySem.W.Frag} {h : Heap} {mg : Str → Option Value} (X : K.In h) (G : h.Ns mainGlobals mg) (hl : (lfL K).all id = true) (hf : (fax K).all id = true) : Txt K mg := by
  have lf0 : LF K := lf_of hl
  exact {
    n_len := He.free_ok X G (all_at hf 47)
    n_max := He.free_ok X G (all_at hf 48)
    n_min := He.free_ok X G (all_at hf 49)
    n_abs := He.free_ok X G (all_at hf 50)
    n_int := He.free_ok X G (all_at hf 51)
    n_bool := He.free_ok X G (all_at hf 52)
    n_str := He.free_ok X G (all_at hf 53)
    n_list := He.free_ok X G (all_at hf 54)
    n_tuple := He.free_ok X G (all_at hf 55)
    n_dict := He.free_ok X G (all_at hf 56)
    n_isinstance := He.free_ok X G (all_at hf 57)
    n_all := He.free_ok X G (all_at hf 58)
    n_any := He.free_ok X G (all_at hf 59)
    n_repr := He.free_ok X G (all_at hf 60)
    n_range := He.free_ok X G (all_at hf 61)
    n_enumerate := He.free_ok X G (all_at hf 62)
    n_zip := He.free_ok X G (all_at hf 63)
    n_sorted := He.free_ok X G (all_at hf 64)
    n_set := He.free_ok X G (all_at hf 65)
    n_sum := He.free_ok X G (all_at hf 66)
    n_reversed := He.free_ok X G (all_at hf 67)
    g_GREATEST_SIZE := (by obtain ⟨t, e⟩ := He.int_ok X G (all_at hf 68); exact ⟨_, e, t, rfl⟩)
    g_MOST_SERVERS := (by obtain ⟨t, e⟩ := He.int_ok X G (all_at hf 69); exact ⟨_, e, t, rfl⟩)
    g_MOST_LETTERS := (by obtain ⟨t, e⟩ := He.int_ok X G (all_at hf 70); exact ⟨_, e, t, rfl⟩)
    g_MOST_ENTRIES := (by obtain ⟨t, e⟩ := He.int_ok X G (all_at hf 71); exact ⟨_, e, t, rfl⟩)
    g_GREATEST_BLOCK := (by obtain ⟨t, e⟩ := He.int_ok X G (all_at hf 72); exact ⟨_, e, t, rfl⟩)
    g_BookError := ⟨_, He.glo_ok X G (all_at hf 34), rfl⟩
    g_InvalidSize := ⟨_, He.glo_ok X G (all_at hf 35), rfl⟩
    g_InvalidServers := ⟨_, He.glo_ok X G (all_at hf 36), rfl⟩
    g_InvalidEntries := ⟨_, He.glo_ok X G (all_at hf 37), rfl⟩
    g_InvalidNumber := ⟨_, He.glo_ok X G (all_at hf 38), rfl⟩
    g_InvalidOwners := ⟨_, He.glo_ok X G (all_at hf 39), rfl⟩
    g_InvalidLog := ⟨_, He.glo_ok X G (all_at hf 40), rfl⟩
    g_TooLarge := ⟨_, He.glo_ok X G (all_at hf 41), rfl⟩
    g_NotPossible := ⟨_, He.glo_ok X G (all_at hf 42), rfl⟩
    g_Sight := ⟨_, He.glo_ok X G (all_at hf 43), rfl⟩
    g_Reach := ⟨_, He.glo_ok X G (all_at hf 44), rfl⟩
    g_Log := ⟨_, He.glo_ok X G (all_at hf 45), rfl⟩
    g_LosingLog := ⟨_, He.glo_ok X G (all_at hf 46), rfl⟩
    x_InvalidLog := ⟨(He.exc_ok (all_at hf 73)).1, (He.exc_ok (all_at hf 73)).2.1, (He.exc_ok (all_at hf 73)).2.2.1, (He.exc_ok (all_at hf 73)).2.2.2, He.glo_ok X G (all_at hf 40), He.exm_ok (all_at hf 74)⟩
    sf := ⟨He.cls_ok (all_at hf 75), He.noat_ok (all_at hf 76), He.noat_ok (all_at hf 77), He.noat_ok (all_at hf 78), He.noat_ok (all_at hf 79)⟩
    k_Sight := He.mkr_ok (all_at hf 80)
    m_Sight_window_of := ⟨fun _ => He.cls_ok (all_at hf 75), fun _ => He.meth_ok (all_at hf 81)⟩
    m_Sight_windows_of := ⟨fun _ => He.cls_ok (all_at hf 75), fun _ => He.meth_ok (all_at hf 82)⟩
    m_Sight_slot_from := ⟨fun _ => He.cls_ok (all_at hf 75), fun _ => He.meth_ok (all_at hf 83)⟩
    m_Sight_slot_up_to := ⟨fun _ => He.cls_ok (all_at hf 75), fun _ => He.meth_ok (all_at hf 84)⟩
    m_Sight_span_starts := ⟨fun _ => He.cls_ok (all_at hf 75), fun _ => He.meth_ok (all_at hf 85)⟩
    m_Sight_whole_spans := ⟨fun _ => He.cls_ok (all_at hf 75), fun _ => He.meth_ok (all_at hf 86)⟩
    m_Sight_earliest_slots := ⟨fun _ => He.cls_ok (all_at hf 75), fun _ => He.meth_ok (all_at hf 87)⟩
    m_Sight_latest_slots := ⟨fun _ => He.cls_ok (all_at hf 75), fun _ => He.meth_ok (all_at hf 88)⟩
    rf := ⟨He.cls_ok (all_at hf 89), He.noat_ok (all_at hf 90), He.noat_ok (all_at hf 91), He.noat_ok (all_at hf 92), He.noat_ok (all_at hf 93)⟩
    k_Reach := He.mkr_ok (all_at hf 94)
    m_Reach_slots_in := ⟨fun _ => He.cls_ok (all_at hf 89), fun _ => He.meth_ok (all_at hf 95)⟩
    m_Reach_owners_in := ⟨fun _ => He.cls_ok (all_at hf 89), fun _ => He.meth_ok (all_at hf 96)⟩
    lf := lf0
    m_Log_init := met2_of lf0 (He.meth_ok (all_at hf 97)) (He.meth_ok (all_at hf 98)) (of_decide_eq_true (all_at hf 99))
    m_Log_len := met2_of lf0 (He.meth_ok (all_at hf 100)) (He.meth_ok (all_at hf 101)) (of_decide_eq_true (all_at hf 102))
    m_Log_add := met2_of lf0 (He.meth_ok (all_at hf 103)) (He.meth_ok (all_at hf 104)) (of_decide_eq_true (all_at hf 105))
    add2 := ⟨met2_of lf0 (He.meth_ok (all_at hf 103)) (He.meth_ok (all_at hf 104)) (of_decide_eq_true (all_at hf 105)), two_cases (all_at hf 106) (all_at hf 107)⟩
    m_Log_eq := met2_of lf0 (He.meth_ok (all_at hf 108)) (He.meth_ok (all_at hf 109)) (of_decide_eq_true (all_at hf 110))
    m_Log_contains := met2_of lf0 (He.meth_ok (all_at hf 111)) (He.meth_ok (all_at hf 112)) (of_decide_eq_true (all_at hf 113))
    m_Log_front := met2_of lf0 (He.meth_ok (all_at hf 114)) (He.meth_ok (all_at hf 115)) (of_decide_eq_true (all_at hf 116))
    m_Log_last_block := met2_of lf0 (He.meth_ok (all_at hf 117)) (He.meth_ok (all_at hf 118)) (of_decide_eq_true (all_at hf 119))
    m_Log_is_alike := met2_of lf0 (He.meth_ok (all_at hf 120)) (He.meth_ok (all_at hf 121)) (of_decide_eq_true (all_at hf 122))
    p_size := prp2_of lf0 (NbH.propB_ok (all_at hf 123)) (NbH.propB_ok (all_at hf 124)) (of_decide_eq_true (all_at hf 125))
    p_servers := prp2_of lf0 (NbH.propB_ok (all_at hf 126)) (NbH.propB_ok (all_at hf 127)) (of_decide_eq_true (all_at hf 128))
    p_entries := prp2_of lf0 (NbH.propB_ok (all_at hf 129)) (NbH.propB_ok (all_at hf 130)) (of_decide_eq_true (all_at hf 131))
    k_Log := He.mkr_ok (all_at hf 132)
    k_LosingLog := of_decide_eq_true (all_at hf 134) ▸ He.mkr_ok (all_at hf 133)
    two := two_of lf0 (met2_of lf0 (He.meth_ok (all_at hf 108)) (He.meth_ok (all_at hf 109)) (of_decide_eq_true (all_at hf 110))) (He.eqO_ok (all_at hf 135)) (He.eqO_ok (all_at hf 136)) }
theorem facts {P : Program} {w : World} {K : PySem.W.Frag} {h : Heap} {mg : Str → Option Value} {f : Addr} (X : K.In h) (G : h.Ns mainGlobals mg) (hfa : mg ("law" : PySem.Str) = some (.ref f)) (c : NbH.Told ex dfs K) :
    ∃ fd : FuncData, (∀ (s : Shared) (v : Value), BindsTo s fd ⟨[v], []⟩ [("script", v)]) ∧ ∀ base : Heap, K.In base → base.Ns mainGlobals mg → NbR.FnG P w K mg base 17 f fd ["script"] (sp_law K) := by
  have hx := c.ex
  unfold ex at hx
  obtain ⟨hl, hf⟩ := He.ba hx
  have T : Txt K mg := txt_of X G hl hf
  obtain ⟨q_law_jar, F_law_jar⟩ := c.df 51 (d := d_law_jar) rfl
  obtain ⟨q_law_tap, F_law_tap⟩ := c.df 52 (d := d_law_tap) rfl
  obtain ⟨q_law_names, F_law_names⟩ := c.df 53 (d := d_law_names) rfl
  obtain ⟨q_law_step, F_law_step⟩ := c.df 54 (d := d_law_step) rfl
  obtain ⟨q_law_scene, F_law_scene⟩ := c.df 55 (d := d_law_scene) rfl
  obtain ⟨q_is_integer, F_is_integer⟩ := c.df 1 (d := d_is_integer) rfl
  obtain ⟨q_is_size, F_is_size⟩ := c.df 3 (d := d_is_size) rfl
  obtain ⟨q_check_size, F_check_size⟩ := c.df 8 (d := d_check_size) rfl
  obtain ⟨q_is_name, F_is_name⟩ := c.df 4 (d := d_is_name) rfl
  obtain ⟨q_are_servers, F_are_servers⟩ := c.df 5 (d := d_are_servers) rfl
  obtain ⟨q_check_servers, F_check_servers⟩ := c.df 9 (d := d_check_servers) rfl
  obtain ⟨q_is_server, F_is_server⟩ := c.df 6 (d := d_is_server) rfl
  obtain ⟨q_is_natural, F_is_natural⟩ := c.df 2 (d := d_is_natural) rfl
  obtain ⟨q_is_entry, F_is_entry⟩ := c.df 7 (d := d_is_entry) rfl
  obtain ⟨q_check_entries, F_check_entries⟩ := c.df 10 (d := d_check_entries) rfl
  obtain ⟨q_Log_init, F_Log_init⟩ := c.df 39 (d := d_Log_init) rfl
  obtain ⟨q_count_rows, F_count_rows⟩ := c.df 34 (d := d_count_rows) rfl
  obtain ⟨q_Log_last_block, F_Log_last_block⟩ := c.df 48 (d := d_Log_last_block) rfl
  obtain ⟨q_find_twice, F_find_twice⟩ := c.df 24 (d := d_find_twice) rfl
  obtain ⟨q_find_shared, F_find_shared⟩ := c.df 25 (d := d_find_shared) rfl
  obtain ⟨q_find_back, F_find_back⟩ := c.df 26 (d := d_find_back) rfl
  obtain ⟨q_find_pair, F_find_pair⟩ := c.df 23 (d := d_find_pair) rfl
  obtain ⟨q_Sight_span_starts, F_Sight_span_starts⟩ := c.df 17 (d := d_Sight_span_starts) rfl
  obtain ⟨q_Sight_window_of, F_Sight_window_of⟩ := c.df 13 (d := d_Sight_window_of) rfl
  obtain ⟨q_Sight_windows_of, F_Sight_windows_of⟩ := c.df 14 (d := d_Sight_windows_of) rfl
  obtain ⟨q_Sight_slot_from, F_Sight_slot_from⟩ := c.df 15 (d := d_Sight_slot_from) rfl
  obtain ⟨q_Sight_earliest_slots, F_Sight_earliest_slots⟩ := c.df 19 (d := d_Sight_earliest_slots) rfl
  obtain ⟨q_pushed_steps, F_pushed_steps⟩ := c.df 27 (d := d_pushed_steps) rfl
  obtain ⟨q_Sight_init, F_Sight_init⟩ := c.df 12 (d := d_Sight_init) rfl
  obtain ⟨q_find_obstacle, F_find_obstacle⟩ := c.df 22 (d := d_find_obstacle) rfl
  obtain ⟨q_check_entries_possible, F_check_entries_possible⟩ := c.df 29 (d := d_check_entries_possible) rfl
  obtain ⟨q_Log_size, F_Log_size⟩ := c.df 40 (d := d_Log_size) rfl
  obtain ⟨q_Log_servers, F_Log_servers⟩ := c.df 41 (d := d_Log_servers) rfl
  obtain ⟨q_Log_entries, F_Log_entries⟩ := c.df 42 (d := d_Log_entries) rfl
  obtain ⟨q_check_possible, F_check_possible⟩ := c.df 28 (d := d_check_possible) rfl
  obtain ⟨q_sight_of, F_sight_of⟩ := c.df 21 (d := d_sight_of) rfl
  obtain ⟨q_Sight_whole_spans, F_Sight_whole_spans⟩ := c.df 18 (d := d_Sight_whole_spans) rfl
  obtain ⟨q_Sight_slot_up_to, F_Sight_slot_up_to⟩ := c.df 16 (d := d_Sight_slot_up_to) rfl
  obtain ⟨q_Sight_latest_slots, F_Sight_latest_slots⟩ := c.df 20 (d := d_Sight_latest_slots) rfl
  obtain ⟨q_Reach_init, F_Reach_init⟩ := c.df 30 (d := d_Reach_init) rfl
  obtain ⟨q_Reach_slots_in, F_Reach_slots_in⟩ := c.df 31 (d := d_Reach_slots_in) rfl
  obtain ⟨q_Reach_owners_in, F_Reach_owners_in⟩ := c.df 32 (d := d_Reach_owners_in) rfl
  obtain ⟨q_owners_by_block, F_owners_by_block⟩ := c.df 33 (d := d_owners_by_block) rfl
  obtain ⟨q_count_lists, F_count_lists⟩ := c.df 35 (d := d_count_lists) rfl
  obtain ⟨q_place_in, F_place_in⟩ := c.df 38 (d := d_place_in) rfl
  obtain ⟨q_list_index, F_list_index⟩ := c.df 37 (d := d_list_index) rfl
  obtain ⟨q_check_count, F_check_count⟩ := c.df 11 (d := d_check_count) rfl
  obtain ⟨q_nth_list, F_nth_list⟩ := c.df 36 (d := d_nth_list) rfl
  obtain ⟨q_law_later_right, F_law_later_right⟩ := c.df 57 (d := d_law_later_right) rfl
  obtain ⟨q_law_right, F_law_right⟩ := c.df 58 (d := d_law_right) rfl
  obtain ⟨q_law, F_law⟩ := c.df 59 (d := d_law) rfl
  have e := hfa.symm.trans (He.glo_ok X G (all_at hf 33))
  cases e
  have bl := FunD.bindsA (ps := ["script"]) F_law fun _ _ _ _ _ _ us hl => match us, hl with | [_], _ => rfl
  refine ⟨_, fun s v => bl s [v] rfl, fun base _ _ => ?_⟩
  have k_law_jar : FnOk P w K mg base CX0 1 _ _ ["script", "k"] (sp_law_jar K) := ok_law_jar F_law_jar T
  have b_law_jar : Binds K q_law_jar ["script", "k"] [] := F_law_jar.bindsN fun _ _ _ _ _ _ us hl => match us, hl with | [_, _], _ => rfl
  have c_law_jar : C8.Cal P w K mg base 1 "_law_jar" (sp_law_jar K) [] := ⟨_, _, _, [], k_law_jar, He.glo_ok X G (all_at hf 0), F_law_jar.kp, b_law_jar, .nil⟩
  have k_law_tap : FnOk P w K mg base CX0 1 _ _ ["jar", "size"] (sp_law_tap K) := ok_law_tap F_law_tap T
  have b_law_tap : Binds K q_law_tap ["jar", "size"] [] := F_law_tap.bindsN fun _ _ _ _ _ _ us hl => match us, hl with | [_, _], _ => rfl
  have c_law_tap : C8.Cal P w K mg base 1 "_law_tap" (sp_law_tap K) [] := ⟨_, _, _, [], k_law_tap, He.glo_ok X G (all_at hf 1), F_law_tap.kp, b_law_tap, .nil⟩
  have k_law_names : FnOk P w K mg base CX0 2 _ _ ["jar", "many"] (sp_law_names K) := ok_law_names F_law_names T c_law_tap
  have b_law_names : Binds K q_law_names ["jar", "many"] [] := F_law_names.bindsN fun _ _ _ _ _ _ us hl => match us, hl with | [_, _], _ => rfl
  have c_law_names : C8.Cal P w K mg base 2 "_law_names" (sp_law_names K) [] := ⟨_, _, _, [], k_law_names, He.glo_ok X G (all_at hf 2), F_law_names.kp, b_law_names, .nil⟩
  have k_law_step : FnOk P w K mg base CX0 2 _ _ ["jar", "size_here", "state", "jumps"] (sp_law_step K) := ok_law_step F_law_step T c_law_tap
  have b_law_step : Binds K q_law_step ["jar", "size_here", "state", "jumps"] [] := F_law_step.bindsN fun _ _ _ _ _ _ us hl => match us, hl with | [_, _, _, _], _ => rfl
  have c_law_step : C8.Cal P w K mg base 2 "_law_step" (sp_law_step K) [] := ⟨_, _, _, [], k_law_step, He.glo_ok X G (all_at hf 3), F_law_step.kp, b_law_step, .nil⟩
  have k_law_scene : FnOk P w K mg base CX0 3 _ _ ["jar", "most", "many", "jumps"] (sp_law_scene K) := ok_law_scene F_law_scene T c_law_tap c_law_names c_law_step
  have b_law_scene : Binds K q_law_scene ["jar", "most", "many", "jumps"] [] := F_law_scene.bindsN fun _ _ _ _ _ _ us hl => match us, hl with | [_, _, _, _], _ => rfl
  have c_law_scene : C8.Cal P w K mg base 3 "_law_scene" (sp_law_scene K) [] := ⟨_, _, _, [], k_law_scene, He.glo_ok X G (all_at hf 4), F_law_scene.kp, b_law_scene, .nil⟩
  have k_is_integer : FnOk P w K mg base CX0 1 _ _ ["thing"] (sp_is_integer K) := ok_is_integer F_is_integer T
  have b_is_integer : Binds K q_is_integer ["thing"] [] := F_is_integer.bindsN fun _ _ _ _ _ _ us hl => match us, hl with | [_], _ => rfl
  have c_is_integer : C8.Cal P w K mg base 1 "is_integer" (sp_is_integer K) [] := ⟨_, _, _, [], k_is_integer, He.glo_ok X G (all_at hf 5), F_is_integer.kp, b_is_integer, .nil⟩
  have k_is_size : FnOk P w K mg base CX0 2 _ _ ["thing"] (sp_is_size K) := ok_is_size F_is_size T c_is_integer
  have b_is_size : Binds K q_is_size ["thing"] [] := F_is_size.bindsN fun _ _ _ _ _ _ us hl => match us, hl with | [_], _ => rfl
  have c_is_size : C8.Cal P w K mg base 2 "is_size" (sp_is_size K) [] := ⟨_, _, _, [], k_is_size, He.glo_ok X G (all_at hf 6), F_is_size.kp, b_is_size, .nil⟩
  have k_check_size : FnOk P w K mg base CX0 3 _ _ ["size"] (sp_check_size K) := ok_check_size F_check_size T c_is_size
  have b_check_size : Binds K q_check_size ["size"] [] := F_check_size.bindsN fun _ _ _ _ _ _ us hl => match us, hl with | [_], _ => rfl
  have c_check_size : C8.Cal P w K mg base 3 "check_size" (sp_check_size K) [] := ⟨_, _, _, [], k_check_size, He.glo_ok X G (all_at hf 7), F_check_size.kp, b_check_size, .nil⟩
  have k_is_name : FnOk P w K mg base CX0 1 _ _ ["thing"] (sp_is_name K) := ok_is_name F_is_name T
  have b_is_name : Binds K q_is_name ["thing"] [] := F_is_name.bindsN fun _ _ _ _ _ _ us hl => match us, hl with | [_], _ => rfl
  have c_is_name : C8.Cal P w K mg base 1 "is_name" (sp_is_name K) [] := ⟨_, _, _, [], k_is_name, He.glo_ok X G (all_at hf 8), F_is_name.kp, b_is_name, .nil⟩
  have k_are_servers : FnOk P w K mg base CX0 2 _ _ ["thing"] (sp_are_servers K) := ok_are_servers F_are_servers T c_is_name
  have b_are_servers : Binds K q_are_servers ["thing"] [] := F_are_servers.bindsN fun _ _ _ _ _ _ us hl => match us, hl with | [_], _ => rfl
  have c_are_servers : C8.Cal P w K mg base 2 "are_servers" (sp_are_servers K) [] := ⟨_, _, _, [], k_are_servers, He.glo_ok X G (all_at hf 9), F_are_servers.kp, b_are_servers, .nil⟩
  have k_check_servers : FnOk P w K mg base CX0 3 _ _ ["servers"] (sp_check_servers K) := ok_check_servers F_check_servers T c_are_servers
  have b_check_servers : Binds K q_check_servers ["servers"] [] := F_check_servers.bindsN fun _ _ _ _ _ _ us hl => match us, hl with | [_], _ => rfl
  have c_check_servers : C8.Cal P w K mg base 3 "check_servers" (sp_check_servers K) [] := ⟨_, _, _, [], k_check_servers, He.glo_ok X G (all_at hf 10), F_check_servers.kp, b_check_servers, .nil⟩
  have k_is_server : FnOk P w K mg base CX0 1 _ _ ["servers", "thing"] (sp_is_server K) := ok_is_server F_is_server T
  have b_is_server : Binds K q_is_server ["servers", "thing"] [] := F_is_server.bindsN fun _ _ _ _ _ _ us hl => match us, hl with | [_, _], _ => rfl
  have c_is_server : C8.Cal P w K mg base 1 "is_server" (sp_is_server K) [] := ⟨_, _, _, [], k_is_server, He.glo_ok X G (all_at hf 11), F_is_server.kp, b_is_server, .nil⟩
  have k_is_natural : FnOk P w K mg base CX0 2 _ _ ["thing"] (sp_is_natural K) := ok_is_natural F_is_natural T c_is_integer
  have b_is_natural : Binds K q_is_natural ["thing"] [] := F_is_natural.bindsN fun _ _ _ _ _ _ us hl => match us, hl with | [_], _ => rfl
  have c_is_natural : C8.Cal P w K mg base 2 "is_natural" (sp_is_natural K) [] := ⟨_, _, _, [], k_is_natural, He.glo_ok X G (all_at hf 12), F_is_natural.kp, b_is_natural, .nil⟩
  have k_is_entry : FnOk P w K mg base CX0 3 _ _ ["servers", "thing"] (sp_is_entry K) := ok_is_entry F_is_entry T c_is_server c_is_natural
  have b_is_entry : Binds K q_is_entry ["servers", "thing"] [] := F_is_entry.bindsN fun _ _ _ _ _ _ us hl => match us, hl with | [_, _], _ => rfl
  have c_is_entry : C8.Cal P w K mg base 3 "is_entry" (sp_is_entry K) [] := ⟨_, _, _, [], k_is_entry, He.glo_ok X G (all_at hf 13), F_is_entry.kp, b_is_entry, .nil⟩
  have k_check_entries : FnOk P w K mg base CX0 4 _ _ ["servers", "entries"] (sp_check_entries K) := ok_check_entries F_check_entries T c_is_entry
  have b_check_entries : Binds K q_check_entries ["servers", "entries"] [] := F_check_entries.bindsN fun _ _ _ _ _ _ us hl => match us, hl with | [_, _], _ => rfl
  have c_check_entries : C8.Cal P w K mg base 4 "check_entries" (sp_check_entries K) [] := ⟨_, _, _, [], k_check_entries, He.glo_ok X G (all_at hf 14), F_check_entries.kp, b_check_entries, .nil⟩
  have k_Log_init : FnOk P w K mg base CX0 5 _ _ ["self", "size", "servers", "entries"] (sp_Log_init K) := ok_Log_init F_Log_init T c_check_size c_check_servers c_check_entries
  have b_Log_init : Binds K q_Log_init ["self", "size", "servers", "entries"] [] := F_Log_init.bindsN fun _ _ _ _ _ _ us hl => match us, hl with | [_, _, _, _], _ => rfl
  have c_mk_Log : C8.Mak P w K mg base 5 "Log" (He.ga K "Log") (sp_Log_init K) [] := ⟨_, _, _, [], T.k_Log, k_Log_init, He.glo_ok X G (all_at hf 45), b_Log_init, .nil⟩
  have c_mk_LosingLog : C8.Mak P w K mg base 5 "LosingLog" (He.ga K "LosingLog") (sp_Log_init K) [] := ⟨_, _, _, [], T.k_LosingLog, k_Log_init, He.glo_ok X G (all_at hf 46), b_Log_init, .nil⟩
  have k_count_rows : FnOk P w K mg base CX0 1 _ _ ["rows"] (sp_count_rows K) := ok_count_rows F_count_rows T
  have b_count_rows : Binds K q_count_rows ["rows"] [] := F_count_rows.bindsN fun _ _ _ _ _ _ us hl => match us, hl with | [_], _ => rfl
  have c_count_rows : C8.Cal P w K mg base 1 "count_rows" (sp_count_rows K) [] := ⟨_, _, _, [], k_count_rows, He.glo_ok X G (all_at hf 15), F_count_rows.kp, b_count_rows, .nil⟩
  have k_Log_last_block : FnOk P w K mg base CX0 1 _ _ ["self"] (sp_Log_last_block K) := ok_Log_last_block F_Log_last_block T
  have b_Log_last_block : Binds K q_Log_last_block ["self"] [] := F_Log_last_block.bindsN fun _ _ _ _ _ _ us hl => match us, hl with | [_], _ => rfl
  have c_Log_last_block : C8.CalAt P w K mg base 1 (d_Log_last_block.way K) (sp_Log_last_block K) := ⟨_, _, k_Log_last_block, F_Log_last_block.kp, b_Log_last_block⟩
  have k_find_twice : FnOk P w K mg base CX0 1 _ _ ["entries"] (sp_find_twice K) := ok_find_twice F_find_twice T
  have b_find_twice : Binds K q_find_twice ["entries"] [] := F_find_twice.bindsN fun _ _ _ _ _ _ us hl => match us, hl with | [_], _ => rfl
  have c_find_twice : C8.Cal P w K mg base 1 "find_twice" (sp_find_twice K) [] := ⟨_, _, _, [], k_find_twice, He.glo_ok X G (all_at hf 16), F_find_twice.kp, b_find_twice, .nil⟩
  have k_find_shared : FnOk P w K mg base CX0 1 _ _ ["size", "entries"] (sp_find_shared K) := ok_find_shared F_find_shared T
  have b_find_shared : Binds K q_find_shared ["size", "entries"] [] := F_find_shared.bindsN fun _ _ _ _ _ _ us hl => match us, hl with | [_, _], _ => rfl
  have c_find_shared : C8.Cal P w K mg base 1 "find_shared" (sp_find_shared K) [] := ⟨_, _, _, [], k_find_shared, He.glo_ok X G (all_at hf 17), F_find_shared.kp, b_find_shared, .nil⟩
  have k_find_back : FnOk P w K mg base CX0 1 _ _ ["entries"] (sp_find_back K) := ok_find_back F_find_back T
  have b_find_back : Binds K q_find_back ["entries"] [] := F_find_back.bindsN fun _ _ _ _ _ _ us hl => match us, hl with | [_], _ => rfl
  have c_find_back : C8.Cal P w K mg base 1 "find_back" (sp_find_back K) [] := ⟨_, _, _, [], k_find_back, He.glo_ok X G (all_at hf 18), F_find_back.kp, b_find_back, .nil⟩
  have k_find_pair : FnOk P w K mg base CX0 2 _ _ ["size", "entries"] (sp_find_pair K) := ok_find_pair F_find_pair T c_find_twice c_find_shared c_find_back
  have b_find_pair : Binds K q_find_pair ["size", "entries"] [] := F_find_pair.bindsN fun _ _ _ _ _ _ us hl => match us, hl with | [_, _], _ => rfl
  have c_find_pair : C8.Cal P w K mg base 2 "find_pair" (sp_find_pair K) [] := ⟨_, _, _, [], k_find_pair, He.glo_ok X G (all_at hf 19), F_find_pair.kp, b_find_pair, .nil⟩
  have k_Sight_span_starts : FnOk P w K mg base CX0 1 _ _ ["self"] (sp_Sight_span_starts K) := ok_Sight_span_starts F_Sight_span_starts T
  have b_Sight_span_starts : Binds K q_Sight_span_starts ["self"] [] := F_Sight_span_starts.bindsN fun _ _ _ _ _ _ us hl => match us, hl with | [_], _ => rfl
  have c_Sight_span_starts : C8.CalAt P w K mg base 1 (d_Sight_span_starts.way K) (sp_Sight_span_starts K) := ⟨_, _, k_Sight_span_starts, F_Sight_span_starts.kp, b_Sight_span_starts⟩
  have k_Sight_window_of : FnOk P w K mg base CX0 1 _ _ ["self", "server", "block"] (sp_Sight_window_of K) := ok_Sight_window_of F_Sight_window_of T
  have b_Sight_window_of : Binds K q_Sight_window_of ["self", "server", "block"] [] := F_Sight_window_of.bindsN fun _ _ _ _ _ _ us hl => match us, hl with | [_, _, _], _ => rfl
  have c_Sight_window_of : C8.CalAt P w K mg base 1 (d_Sight_window_of.way K) (sp_Sight_window_of K) := ⟨_, _, k_Sight_window_of, F_Sight_window_of.kp, b_Sight_window_of⟩
  have k_Sight_windows_of : FnOk P w K mg base CX0 3 _ _ ["self", "block"] (sp_Sight_windows_of K) := ok_Sight_windows_of F_Sight_windows_of T c_Sight_window_of
  have b_Sight_windows_of : Binds K q_Sight_windows_of ["self", "block"] [] := F_Sight_windows_of.bindsN fun _ _ _ _ _ _ us hl => match us, hl with | [_, _], _ => rfl
  have c_Sight_windows_of : C8.CalAt P w K mg base 3 (d_Sight_windows_of.way K) (sp_Sight_windows_of K) := ⟨_, _, k_Sight_windows_of, F_Sight_windows_of.kp, b_Sight_windows_of⟩
  have k_Sight_slot_from : FnOk P w K mg base CX0 5 _ _ ["self", "block", "slot"] (sp_Sight_slot_from K) := ok_Sight_slot_from F_Sight_slot_from T c_Sight_windows_of
  have b_Sight_slot_from : Binds K q_Sight_slot_from ["self", "block", "slot"] [] := F_Sight_slot_from.bindsN fun _ _ _ _ _ _ us hl => match us, hl with | [_, _, _], _ => rfl
  have c_Sight_slot_from : C8.CalAt P w K mg base 5 (d_Sight_slot_from.way K) (sp_Sight_slot_from K) := ⟨_, _, k_Sight_slot_from, F_Sight_slot_from.kp, b_Sight_slot_from⟩
  have k_Sight_earliest_slots : FnOk P w K mg base CX0 7 _ _ ["self"] (sp_Sight_earliest_slots K) := ok_Sight_earliest_slots F_Sight_earliest_slots T c_Sight_span_starts c_Sight_slot_from
  have b_Sight_earliest_slots : Binds K q_Sight_earliest_slots ["self"] [] := F_Sight_earliest_slots.bindsN fun _ _ _ _ _ _ us hl => match us, hl with | [_], _ => rfl
  have c_Sight_earliest_slots : C8.CalAt P w K mg base 7 (d_Sight_earliest_slots.way K) (sp_Sight_earliest_slots K) := ⟨_, _, k_Sight_earliest_slots, F_Sight_earliest_slots.kp, b_Sight_earliest_slots⟩
  have k_pushed_steps : FnOk P w K mg base CX0 9 _ _ ["sight"] (sp_pushed_steps K) := ok_pushed_steps F_pushed_steps T c_Sight_span_starts c_Sight_earliest_slots
  have b_pushed_steps : Binds K q_pushed_steps ["sight"] [] := F_pushed_steps.bindsN fun _ _ _ _ _ _ us hl => match us, hl with | [_], _ => rfl
  have c_pushed_steps : C8.Cal P w K mg base 9 "pushed_steps" (sp_pushed_steps K) [] := ⟨_, _, _, [], k_pushed_steps, He.glo_ok X G (all_at hf 20), F_pushed_steps.kp, b_pushed_steps, .nil⟩
  have k_Sight_init : FnOk P w K mg base CX0 1 _ _ ["self", "size", "servers", "entries"] (sp_Sight_init K) := ok_Sight_init F_Sight_init T
  have b_Sight_init : Binds K q_Sight_init ["self", "size", "servers", "entries"] [] := F_Sight_init.bindsN fun _ _ _ _ _ _ us hl => match us, hl with | [_, _, _, _], _ => rfl
  have c_mk_Sight : C8.Mak P w K mg base 1 "Sight" (He.ga K "Sight") (sp_Sight_init K) [] := ⟨_, _, _, [], T.k_Sight, k_Sight_init, He.glo_ok X G (all_at hf 43), b_Sight_init, .nil⟩
  have k_find_obstacle : FnOk P w K mg base CX0 10 _ _ ["size", "servers", "entries"] (sp_find_obstacle K) := ok_find_obstacle F_find_obstacle T c_find_pair c_pushed_steps c_mk_Sight
  have b_find_obstacle : Binds K q_find_obstacle ["size", "servers", "entries"] [] := F_find_obstacle.bindsN fun _ _ _ _ _ _ us hl => match us, hl with | [_, _, _], _ => rfl
  have c_find_obstacle : C8.Cal P w K mg base 10 "find_obstacle" (sp_find_obstacle K) [] := ⟨_, _, _, [], k_find_obstacle, He.glo_ok X G (all_at hf 21), F_find_obstacle.kp, b_find_obstacle, .nil⟩
  have k_check_entries_possible : FnOk P w K mg base CX0 11 _ _ ["size", "servers", "entries"] (sp_check_entries_possible K) := ok_check_entries_possible F_check_entries_possible T c_find_obstacle
  have b_check_entries_possible : Binds K q_check_entries_possible ["size", "servers", "entries"] [] := F_check_entries_possible.bindsN fun _ _ _ _ _ _ us hl => match us, hl with | [_, _, _], _ => rfl
  have c_check_entries_possible : C8.Cal P w K mg base 11 "check_entries_possible" (sp_check_entries_possible K) [] := ⟨_, _, _, [], k_check_entries_possible, He.glo_ok X G (all_at hf 22), F_check_entries_possible.kp, b_check_entries_possible, .nil⟩
  have k_Log_size : FnOk P w K mg base CX0 1 _ _ ["self"] (sp_Log_size K) := ok_Log_size F_Log_size T
  have b_Log_size : Binds K q_Log_size ["self"] [] := F_Log_size.bindsN fun _ _ _ _ _ _ us hl => match us, hl with | [_], _ => rfl
  have c_Log_size : C8.CalAt P w K mg base 1 (d_Log_size.way K) (sp_Log_size K) := ⟨_, _, k_Log_size, F_Log_size.kp, b_Log_size⟩
  have k_Log_servers : FnOk P w K mg base CX0 1 _ _ ["self"] (sp_Log_servers K) := ok_Log_servers F_Log_servers T
  have b_Log_servers : Binds K q_Log_servers ["self"] [] := F_Log_servers.bindsN fun _ _ _ _ _ _ us hl => match us, hl with | [_], _ => rfl
  have c_Log_servers : C8.CalAt P w K mg base 1 (d_Log_servers.way K) (sp_Log_servers K) := ⟨_, _, k_Log_servers, F_Log_servers.kp, b_Log_servers⟩
  have k_Log_entries : FnOk P w K mg base CX0 1 _ _ ["self"] (sp_Log_entries K) := ok_Log_entries F_Log_entries T
  have b_Log_entries : Binds K q_Log_entries ["self"] [] := F_Log_entries.bindsN fun _ _ _ _ _ _ us hl => match us, hl with | [_], _ => rfl
  have c_Log_entries : C8.CalAt P w K mg base 1 (d_Log_entries.way K) (sp_Log_entries K) := ⟨_, _, k_Log_entries, F_Log_entries.kp, b_Log_entries⟩
  have k_check_possible : FnOk P w K mg base CX0 12 _ _ ["log"] (sp_check_possible K) := ok_check_possible F_check_possible T c_check_entries_possible c_Log_size c_Log_servers c_Log_entries
  have b_check_possible : Binds K q_check_possible ["log"] [] := F_check_possible.bindsN fun _ _ _ _ _ _ us hl => match us, hl with | [_], _ => rfl
  have c_check_possible : C8.Cal P w K mg base 12 "check_possible" (sp_check_possible K) [] := ⟨_, _, _, [], k_check_possible, He.glo_ok X G (all_at hf 23), F_check_possible.kp, b_check_possible, .nil⟩
  have k_sight_of : FnOk P w K mg base CX0 3 _ _ ["log"] (sp_sight_of K) := ok_sight_of F_sight_of T c_mk_Sight c_Log_size c_Log_servers c_Log_entries
  have b_sight_of : Binds K q_sight_of ["log"] [] := F_sight_of.bindsN fun _ _ _ _ _ _ us hl => match us, hl with | [_], _ => rfl
  have c_sight_of : C8.Cal P w K mg base 3 "sight_of" (sp_sight_of K) [] := ⟨_, _, _, [], k_sight_of, He.glo_ok X G (all_at hf 24), F_sight_of.kp, b_sight_of, .nil⟩
  have k_Sight_whole_spans : FnOk P w K mg base CX0 3 _ _ ["self"] (sp_Sight_whole_spans K) := ok_Sight_whole_spans F_Sight_whole_spans T c_Sight_span_starts
  have b_Sight_whole_spans : Binds K q_Sight_whole_spans ["self"] [] := F_Sight_whole_spans.bindsN fun _ _ _ _ _ _ us hl => match us, hl with | [_], _ => rfl
  have c_Sight_whole_spans : C8.CalAt P w K mg base 3 (d_Sight_whole_spans.way K) (sp_Sight_whole_spans K) := ⟨_, _, k_Sight_whole_spans, F_Sight_whole_spans.kp, b_Sight_whole_spans⟩
  have k_Sight_slot_up_to : FnOk P w K mg base CX0 5 _ _ ["self", "block", "slot"] (sp_Sight_slot_up_to K) := ok_Sight_slot_up_to F_Sight_slot_up_to T c_Sight_windows_of
  have b_Sight_slot_up_to : Binds K q_Sight_slot_up_to ["self", "block", "slot"] [] := F_Sight_slot_up_to.bindsN fun _ _ _ _ _ _ us hl => match us, hl with | [_, _, _], _ => rfl
  have c_Sight_slot_up_to : C8.CalAt P w K mg base 5 (d_Sight_slot_up_to.way K) (sp_Sight_slot_up_to K) := ⟨_, _, k_Sight_slot_up_to, F_Sight_slot_up_to.kp, b_Sight_slot_up_to⟩
  have k_Sight_latest_slots : FnOk P w K mg base CX0 7 _ _ ["self"] (sp_Sight_latest_slots K) := ok_Sight_latest_slots F_Sight_latest_slots T c_Sight_span_starts c_Sight_slot_up_to
  have b_Sight_latest_slots : Binds K q_Sight_latest_slots ["self"] [] := F_Sight_latest_slots.bindsN fun _ _ _ _ _ _ us hl => match us, hl with | [_], _ => rfl
  have c_Sight_latest_slots : C8.CalAt P w K mg base 7 (d_Sight_latest_slots.way K) (sp_Sight_latest_slots K) := ⟨_, _, k_Sight_latest_slots, F_Sight_latest_slots.kp, b_Sight_latest_slots⟩
  have k_Reach_init : FnOk P w K mg base CX0 9 _ _ ["self", "log"] (sp_Reach_init K) := ok_Reach_init F_Reach_init T c_sight_of c_Sight_whole_spans c_Sight_earliest_slots c_Sight_latest_slots
  have b_Reach_init : Binds K q_Reach_init ["self", "log"] [] := F_Reach_init.bindsN fun _ _ _ _ _ _ us hl => match us, hl with | [_, _], _ => rfl
  have c_mk_Reach : C8.Mak P w K mg base 9 "Reach" (He.ga K "Reach") (sp_Reach_init K) [] := ⟨_, _, _, [], T.k_Reach, k_Reach_init, He.glo_ok X G (all_at hf 44), b_Reach_init, .nil⟩
  have k_Reach_slots_in : FnOk P w K mg base CX0 3 _ _ ["self", "index", "server"] (sp_Reach_slots_in K) := ok_Reach_slots_in F_Reach_slots_in T c_Sight_window_of
  have b_Reach_slots_in : Binds K q_Reach_slots_in ["self", "index", "server"] [] := F_Reach_slots_in.bindsN fun _ _ _ _ _ _ us hl => match us, hl with | [_, _, _], _ => rfl
  have c_Reach_slots_in : C8.CalAt P w K mg base 3 (d_Reach_slots_in.way K) (sp_Reach_slots_in K) := ⟨_, _, k_Reach_slots_in, F_Reach_slots_in.kp, b_Reach_slots_in⟩
  have k_Reach_owners_in : FnOk P w K mg base CX0 5 _ _ ["self", "index"] (sp_Reach_owners_in K) := ok_Reach_owners_in F_Reach_owners_in T c_Reach_slots_in
  have b_Reach_owners_in : Binds K q_Reach_owners_in ["self", "index"] [] := F_Reach_owners_in.bindsN fun _ _ _ _ _ _ us hl => match us, hl with | [_, _], _ => rfl
  have c_Reach_owners_in : C8.CalAt P w K mg base 5 (d_Reach_owners_in.way K) (sp_Reach_owners_in K) := ⟨_, _, k_Reach_owners_in, F_Reach_owners_in.kp, b_Reach_owners_in⟩
  have k_owners_by_block : FnOk P w K mg base CX0 13 _ _ ["log"] (sp_owners_by_block K) := ok_owners_by_block F_owners_by_block T c_Log_last_block c_check_possible c_mk_Reach c_Reach_owners_in
  have b_owners_by_block : Binds K q_owners_by_block ["log"] [] := F_owners_by_block.bindsN fun _ _ _ _ _ _ us hl => match us, hl with | [_], _ => rfl
  have c_owners_by_block : C8.Cal P w K mg base 13 "owners_by_block" (sp_owners_by_block K) [] := ⟨_, _, _, [], k_owners_by_block, He.glo_ok X G (all_at hf 25), F_owners_by_block.kp, b_owners_by_block, .nil⟩
  have k_count_lists : FnOk P w K mg base CX0 14 _ _ ["log"] (sp_count_lists K) := ok_count_lists F_count_lists T c_count_rows c_owners_by_block
  have b_count_lists : Binds K q_count_lists ["log"] [] := F_count_lists.bindsN fun _ _ _ _ _ _ us hl => match us, hl with | [_], _ => rfl
  have c_count_lists : C8.Cal P w K mg base 14 "count_lists" (sp_count_lists K) [] := ⟨_, _, _, [], k_count_lists, He.glo_ok X G (all_at hf 26), F_count_lists.kp, b_count_lists, .nil⟩
  have k_place_in : FnOk P w K mg base CX0 1 _ _ ["row", "owner"] (sp_place_in K) := ok_place_in F_place_in T
  have b_place_in : Binds K q_place_in ["row", "owner"] [] := F_place_in.bindsN fun _ _ _ _ _ _ us hl => match us, hl with | [_, _], _ => rfl
  have c_place_in : C8.Cal P w K mg base 1 "place_in" (sp_place_in K) [] := ⟨_, _, _, [], k_place_in, He.glo_ok X G (all_at hf 27), F_place_in.kp, b_place_in, .nil⟩
  have k_list_index : FnOk P w K mg base CX0 14 _ _ ["log", "owners"] (sp_list_index K) := ok_list_index F_list_index T c_owners_by_block c_place_in
  have b_list_index : Binds K q_list_index ["log", "owners"] [] := F_list_index.bindsN fun _ _ _ _ _ _ us hl => match us, hl with | [_, _], _ => rfl
  have c_list_index : C8.Cal P w K mg base 14 "list_index" (sp_list_index K) [] := ⟨_, _, _, [], k_list_index, He.glo_ok X G (all_at hf 28), F_list_index.kp, b_list_index, .nil⟩
  have k_check_count : FnOk P w K mg base CX0 3 _ _ ["count", "most"] (sp_check_count K) := ok_check_count F_check_count T c_is_natural
  have b_check_count : Binds K q_check_count ["count", "most"] [] := F_check_count.bindsN fun _ _ _ _ _ _ us hl => match us, hl with | [_, _], _ => rfl
  have c_check_count : C8.Cal P w K mg base 3 "check_count" (sp_check_count K) [] := ⟨_, _, _, [], k_check_count, He.glo_ok X G (all_at hf 29), F_check_count.kp, b_check_count, .nil⟩
  have k_nth_list : FnOk P w K mg base CX0 14 _ _ ["log", "index"] (sp_nth_list K) := ok_nth_list F_nth_list T c_owners_by_block c_check_count c_count_rows
  have b_nth_list : Binds K q_nth_list ["log", "index"] [] := F_nth_list.bindsN fun _ _ _ _ _ _ us hl => match us, hl with | [_, _], _ => rfl
  have c_nth_list : C8.Cal P w K mg base 14 "nth_list" (sp_nth_list K) [] := ⟨_, _, _, [], k_nth_list, He.glo_ok X G (all_at hf 30), F_nth_list.kp, b_nth_list, .nil⟩
  have k_law_later_right : FnOk P w K mg base CX0 15 _ _ ["jar", "book", "whole"] (sp_law_later_right K) := ok_law_later_right F_law_later_right T c_Log_servers c_law_tap c_Log_entries c_Log_size c_mk_Log c_count_lists c_nth_list c_list_index
  have b_law_later_right : Binds K q_law_later_right ["jar", "book", "whole"] [] := F_law_later_right.bindsN fun _ _ _ _ _ _ us hl => match us, hl with | [_, _, _], _ => rfl
  have c_law_later_right : C8.Cal P w K mg base 15 "_law_later_right" (sp_law_later_right K) [] := ⟨_, _, _, [], k_law_later_right, He.glo_ok X G (all_at hf 31), F_law_later_right.kp, b_law_later_right, .nil⟩
  have k_law_right : FnOk P w K mg base CX0 16 _ _ ["jar", "size_here", "names_here", "entries_here"] (sp_law_right K) := ok_law_right F_law_right T c_mk_Log c_count_lists c_Log_last_block c_mk_LosingLog c_list_index c_nth_list c_law_tap c_law_later_right
  have b_law_right : Binds K q_law_right ["jar", "size_here", "names_here", "entries_here"] [] := F_law_right.bindsN fun _ _ _ _ _ _ us hl => match us, hl with | [_, _, _, _], _ => rfl
  have c_law_right : C8.Cal P w K mg base 16 "_law_right" (sp_law_right K) [] := ⟨_, _, _, [], k_law_right, He.glo_ok X G (all_at hf 32), F_law_right.kp, b_law_right, .nil⟩
  exact ok_law F_law T c_law_jar c_law_scene c_law_right
end LawP
open PySem PySem.W PySem.Calls PyProof.Rows
theorem PySem.Challenge.cw_numberbooks_k26_whole_counts_of_alike_lo_holds : PySem.Challenge.rw_numberbooks_k26_whole_counts_of_alike_lo.Holds := by
  w_on; o_law
  refine HandSHeadRun.head_any (r := OpenLaw.row PySem.Challenge.rw_numberbooks_k26_whole_counts_of_alike_lo) (q := view (OpenLaw.row PySem.Challenge.rw_numberbooks_k26_whole_counts_of_alike_lo).prog [61]) (H := LawP.hk) (ob := LawP.ob) (M := 12000) (loose := LawP.loose) (d := HandSHeadRun.topDef (OpenLaw.row PySem.Challenge.rw_numberbooks_k26_whole_counts_of_alike_lo).prog 61) (kwd := []) LawP.ob_eq
    (by kernel_rfl) (fun s => by kernel_rfl) LawP.top_runs (by kernel_rfl) (by kernel_rfl) (by kernel_rfl) (by rfl) (by first | assumption | decide +kernel) (by decide +kernel) ⟨rfl, rfl, rfl, rfl, rfl, by decide +kernel⟩ ?hw ?hc
  case hw => w_witness2
  case hc =>
    refine NbR.lawG (l := PySem.Challenge.rw_numberbooks_k26_whole_counts_of_alike_lo) (n := 63) (k := 17) (x := "script") rfl (by decide) (by kernel_rfl) ⟨rfl, by decide, by decide⟩ ?F
    intro w mg fa h Y G hmg0
    obtain ⟨K, KX, c⟩ := Y
    have hmg : mg ("law" : PySem.Str) = some (.ref fa) := by
      have e : (HandSHeadRun.topDef (OpenLaw.row PySem.Challenge.rw_numberbooks_k26_whole_counts_of_alike_lo).prog 61).name = ("law" : PySem.Str) := by kernel_rfl
      rw [← e]
      exact hmg0
    obtain ⟨fd, hb, hF⟩ := LawP.facts (P := (PySem.Challenge.rw_numberbooks_k26_whole_counts_of_alike_lo).prog) (w := w) KX G hmg c
    exact ⟨K, fd, LawP.sp_law K, KX, hb, fun H a ns hl hS => ⟨a, ns, rfl, hS, hl, fun _ => rfl⟩, hF⟩
